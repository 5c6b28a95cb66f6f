"""Trees of connected houses, by which rings and drives go."""

import unittest

from crateround.graphs import links_within, tree_from, trees_of, way_between

#     a - b - d
#     |   |
#     c   e - f      g - h      i
PAIRS = [("a", "b"), ("a", "c"), ("b", "d"), ("b", "e"), ("e", "f"), ("g", "h")]


class GraphsTest(unittest.TestCase):

    def test_links(self):
        self.assertEqual(links_within("abe", PAIRS), {"a": ["b"], "b": ["a", "e"], "e": ["b"]})
        self.assertEqual(links_within([], PAIRS), {})

    def test_trees(self):
        tree = tree_from("b", links_within("abcdef", PAIRS))
        self.assertEqual(list(tree.items()), [("b", None), ("a", "b"), ("d", "b"), ("e", "b"), ("c", "a"), ("f", "e")])
        self.assertEqual([sorted(each) for each in trees_of("abcdefghi", PAIRS)], [list("abcdef"), ["g", "h"], ["i"]])
        self.assertEqual(trees_of("", PAIRS), [])

    def test_ways(self):
        before = tree_from("a", links_within("abcdef", PAIRS))
        for way in ("febd", "cabef", "ab", "ba", "a", "f", "feba", "abef", "eb", "dbe"):
            self.assertEqual(way_between(way[0], way[-1], before), list(way))


if __name__ == "__main__":
    unittest.main()
