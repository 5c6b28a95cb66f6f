import itertools
import operator
import re
import unittest

from crateround.errors import InvalidLoad, InvalidText
from crateround.exchanges import Exchanges
from crateround.loads import Load
from helpers import any_values

BIG = 10 ** 80 - 1


class MakingTest(unittest.TestCase):

    def test_counts(self):
        self.assertEqual(Load(box=3, tray=-1).counts, {"box": 3, "tray": -1})
        self.assertEqual(Load().counts, {})
        self.assertEqual(Load(box=0, tray=0).counts, {})
        self.assertEqual(Load.of({"box": 3, "tray": 0}).counts, {"box": 3})
        self.assertEqual(Load(box=BIG, tray=-BIG).counts, {"box": BIG, "tray": -BIG})

    def test_counts_are_ascending_and_new(self):
        load = Load(tray=1, box=2, abc=-4, cart=0)
        self.assertEqual(list(load.counts), ["abc", "box", "tray"])
        self.assertEqual(list(Load.of({"tray": 1, "box": 2}).counts), ["box", "tray"])
        self.assertEqual(list((Load(tray=1) + Load(box=1)).counts), ["box", "tray"])
        load.counts["box"] = 9
        load.counts.clear()
        self.assertEqual(load, Load(tray=1, box=2, abc=-4))

    def test_of_copies_and_does_not_change(self):
        counts = {"tray": 1, "box": 0}
        load = Load.of(counts)
        self.assertEqual(list(counts.items()), [("tray", 1), ("box", 0)])
        counts["tray"] = 5
        self.assertEqual(load["tray"], 1)
        self.assertEqual(Load.of(counts={"self": 2})["self"], 2)

    def test_all_kinds_but_self_by_name(self):
        for kind in ("cls", "counts", "first", "loads", "text", "kind", "of", "if", "z" * 8):
            self.assertEqual(Load(**{kind: 2}), Load.of({kind: 2}))

    def test_of_refuses_what_is_no_dict_with_strings(self):
        wrong = [value for value in any_values() if not isinstance(value, dict)]
        wrong += [{1: 1}, {None: 2}, {"box": 1, 2: 1}, {b"box": 1}, {("box",): 1}, Load(), Exchanges()]
        for value in wrong:
            with self.subTest(value=value), self.assertRaises(InvalidLoad) as caught:
                Load.of(value)
            self.assertIs(caught.exception.value, value)

    def test_kinds_are_words_and_counts_are_integers(self):
        for kind in ("", "Box", "BOX", "nine" * 2 + "x", "a b", "a1", "a_b", "-", "b\u00e4r", "a\n", "\u0430"):
            for make in (Load.of, lambda counts: Load(**counts)):
                with self.subTest(kind=kind), self.assertRaises(InvalidLoad) as caught:
                    make({"box": 1, kind: 2})
                self.assertEqual(caught.exception.value, kind)
        for count in (None, True, False, "1", b"1", (1,), [1], {}, Load(box=1)):
            for make in (Load.of, lambda counts: Load(**counts)):
                with self.subTest(count=count), self.assertRaises(InvalidLoad) as caught:
                    make({"box": 1, "tray": count})
                self.assertEqual(caught.exception.value, "tray")

    def test_the_first_wrong_kind_is_told(self):
        for make in (Load.of, lambda counts: Load(**counts)):
            for counts, kind in [({"z": None, "b": True, "a": 1}, "b"), ({"tray": "x", "Tray": 1}, "Tray"),
                                 ({"b": None, "a!": 0}, "a!"), ({"a!": 0, "a": None}, "a")]:
                with self.assertRaises(InvalidLoad) as caught:
                    make(counts)
                self.assertEqual(caught.exception.value, kind)
        # A key that is no string comes ahead of any kind.
        value = {"Box": 1, 3: 1}
        with self.assertRaises(InvalidLoad) as caught:
            Load.of(value)
        self.assertIs(caught.exception.value, value)


class ReadingTest(unittest.TestCase):

    def test_kinds_positive_negative(self):
        load = Load(tray=-1, box=3, cart=0, abc=2)
        self.assertEqual(load.kinds, ("abc", "box", "tray"))
        self.assertEqual(load.positive.counts, {"abc": 2, "box": 3})
        self.assertEqual(load.negative.counts, {"tray": 1})
        self.assertEqual(load.positive - load.negative, load)
        self.assertEqual((Load().kinds, Load().positive, Load().negative), ((), Load(), Load()))

    def test_count_of_a_kind(self):
        load = Load(box=3, tray=-BIG)
        self.assertEqual([load["box"], load["tray"], load["cart"]], [3, -BIG, 0])

    def test_contains_any_value(self):
        load = Load(box=3, tray=0)
        self.assertIs("box" in load, True)
        self.assertIs("tray" in load, False)
        self.assertIs("cart" in load, False)
        for value in [*any_values(), Load(box=3), Exchanges()]:
            self.assertIs(value in load, False)

    def test_is_not_iterated_over(self):
        with self.assertRaises(TypeError):
            list(Load(box=1))

    def test_length_and_truth(self):
        self.assertEqual([len(Load()), len(Load(box=0)), len(Load(box=1, tray=-1))], [0, 0, 2])
        self.assertEqual([bool(Load()), bool(Load(box=0)), bool(Load(box=-1))], [False, False, True])

    def test_no_word_in_it_can_be_set(self):
        with self.assertRaises(TypeError):
            Load(box=1)["box"] = 2


class ReckoningTest(unittest.TestCase):

    def test_sums_and_differences(self):
        one, other = Load(box=3, tray=-1), Load(tray=1, cart=5)
        self.assertEqual((one + other).counts, {"box": 3, "cart": 5})
        self.assertEqual((one - other).counts, {"box": 3, "cart": -5, "tray": -2})
        self.assertEqual((-one).counts, {"box": -3, "tray": 1})
        self.assertEqual(one + Load(), one)
        self.assertEqual(one - one, Load())
        self.assertEqual(Load(box=BIG) + Load(box=BIG), Load(box=2 * BIG))
        self.assertEqual((one.counts, other.counts), ({"box": 3, "tray": -1}, {"tray": 1, "cart": 5}))

    def test_multiples(self):
        load = Load(box=3, tray=-1)
        for number in (0, 1, 2, -5, BIG):
            self.assertEqual(load * number, Load(box=3 * number, tray=-number))
            self.assertEqual(number * load, Load(box=3 * number, tray=-number))
        self.assertEqual((load * 0).counts, {})

    def test_equal(self):
        self.assertTrue(Load(box=1, tray=0) == Load.of({"box": 1}))
        self.assertFalse(Load(box=1) != Load(box=1))
        self.assertTrue(Load(box=1) != Load(box=2))
        self.assertFalse(Load(box=1) == Load(tray=1))
        for value in [*any_values(), {"box": 1}, "box 1", Exchanges()]:
            for load in (Load(), Load(box=1)):
                self.assertIs(load == value, False)
                self.assertIs(value == load, False)
                self.assertIs(load != value, True)

    def test_order(self):
        loads = [Load.of({"a": a, "b": b, "c": c}) for a, b, c in itertools.product((-1, 0, 2), repeat=3)]
        for one, other in itertools.product(loads, repeat=2):
            least = all(one[kind] <= other[kind] for kind in "abc")
            most = all(one[kind] >= other[kind] for kind in "abc")
            same = all(one[kind] == other[kind] for kind in "abc")
            self.assertIs(one <= other, least)
            self.assertIs(one >= other, most)
            self.assertIs(one < other, least and not same)
            self.assertIs(one > other, most and not same)
            self.assertIs(one == other, same)

    def test_no_signs_between_loads_and_other_values(self):
        for value in (None, True, "box", (1,), {"box": 1}, Exchanges()):
            for sign in (operator.add, operator.sub, operator.mul, operator.le, operator.lt, operator.ge, operator.gt):
                for one, other in [(Load(box=1), value), (value, Load(box=1))]:
                    with self.subTest(value=value, sign=sign), self.assertRaises(TypeError):
                        sign(one, other)

    def test_total(self):
        self.assertEqual(Load.total(), Load())
        self.assertEqual(Load.total(Load(box=1)), Load(box=1))
        self.assertEqual(Load.total(Load(box=1), Load(tray=2), Load(box=-1, cart=3)), Load(tray=2, cart=3))
        self.assertEqual(Load.total(*[Load(box=1)] * 500), Load(box=500))


def is_text(text):
    """Whether this is a text of a load with at most 80 digits in each count."""
    if text == "-":
        return True
    if re.fullmatch(r"[a-z]{1,8} -?[1-9][0-9]{0,79}( [a-z]{1,8} -?[1-9][0-9]{0,79})*", text) is None:
        return False
    kinds = text.split(" ")[::2]
    return all(one < other for one, other in zip(kinds, kinds[1:]))


def begins_a_text(text):
    ends = ["", "1", " 1", *["z" * many + " 1" for many in range(9)]]
    return any(is_text(text + end) for end in ends)


def reach(text):
    return max(length for length in range(len(text) + 1) if begins_a_text(text[:length]))


class TextTest(unittest.TestCase):

    def test_text(self):
        self.assertEqual(Load(box=3, tray=-1).text(), "box 3 tray -1")
        self.assertEqual(Load(tray=-1, box=3, cart=0).text(), "box 3 tray -1")
        self.assertEqual(Load().text(), "-")
        self.assertEqual(Load(box=BIG).text(), "box " + "9" * 80)
        self.assertEqual((Load(box=BIG) * BIG).text(), "box " + str(BIG * BIG))

    def test_read_is_the_inverse(self):
        for load in (Load(), Load(box=3, tray=-1), Load(a=10, b=-20, zzzzzzzz=100), Load(box=BIG, tray=-BIG),
                     Load.of({"self": 4}), Load(a=1, aa=1, ab=1, b=1)):
            self.assertEqual(Load.read(load.text()), load)
            self.assertEqual(Load.read(text=load.text()).text(), load.text())

    def test_what_is_no_string(self):
        for value in [*any_values(), b"box 3", Load(box=3)]:
            if not isinstance(value, str):
                self.check(value, 0)

    def test_wrong_texts(self):
        for text, index in [
                ("", 0), (" ", 0), ("--", 1), ("- ", 1), ("-\n", 1), ("-1", 1), ("0", 0), ("box", 3), ("box ", 4),
                ("box  3", 4), ("box -", 5), ("box - 3", 5), ("box --3", 5), ("box 0", 4), ("box -0", 5),
                ("box 03", 4), ("box +3", 4), ("box 3 ", 6), ("box 3\n", 5), ("box 3  tray 1", 6), (" box 3", 0),
                ("box 3x", 5), ("box 3-", 5), ("box 3.0", 5), ("Box 3", 0), ("boX 3", 2), ("box\t3", 3),
                ("abcdefgh", 8), ("abcdefghi 1", 8), ("b\u00e4r 1", 1), ("box \u0663", 4), ("box 3\u0663", 5),
                ("box 1 box 2", 9), ("tray 1 box 2", 7), ("box 1 bow 2", 8), ("box 1 bo", 8), ("box 1 bo 2", 8),
                ("b 1 b 2", 5), ("b 1 a 2", 4), ("zzzzzzzz 3 ", 10), ("zzzzzzzz 3 a 1", 10),
                ("zzzzzzzz -12 zzzzzzzz 1", 12), ("zzzzzzz 3 zzzzzzz 1", 17), ("zzzzzzzy 3 zzzzzzzy 1", 18),
                ("box 3 tray -1 -", 14), ("box 3, tray 1", 5)]:
            with self.subTest(text):
                self.check(text, index)
                self.assertEqual(reach(text), index)

    def test_at_most_eighty_digits(self):
        self.assertEqual(Load.read("box -" + "1" * 80)["box"], -int("1" * 80))
        self.check("box " + "1" * 81, 84)
        self.check("box -" + "9" * 81, 85)
        self.check("a 1 box " + "1" * 200 + " c 1", 88)

    def test_all_changes_of_a_text(self):
        for text in ("box 3 tray -10", "a 1 zzzzzzzz 2", "ab -1 abc 1"):
            for at in range(len(text) + 1):
                for put in ("", " ", "-", "0", "5", "a", "m", "z", "A"):
                    for changed in (text[:at] + put + text[at:], text[:at] + put + text[at + 1:]):
                        with self.subTest(changed):
                            self.check(changed, None if is_text(changed) else reach(changed))

    def check(self, text, index):
        if index is None:
            self.assertEqual(Load.read(text).text(), text)
            return
        with self.assertRaises(InvalidText) as caught:
            Load.read(text)
        self.assertEqual(caught.exception.index, index)


if __name__ == "__main__":
    unittest.main()
