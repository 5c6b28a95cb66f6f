"""Crateround: returnable crates between houses."""
