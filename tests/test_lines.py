"""Points 6 to 8: lines and scripts, guards, and what a line does."""
import itertools
import unittest

from helpers import Case, all_lines, slow_apply, slow_look, slow_matches
from redolots.errors import InvalidImage, InvalidLine
from redolots.images import look
from redolots.lines import apply_line, check_script, fires, look_after, matches, sources

GOOD = ("copy", 1, 0, "")
SMALL_GUARDS = [""] + ["".join(signs) for signs in itertools.product(".*-019", repeat=2)]
SMALL_IMAGES = list(itertools.product((-1, 7, 99, 100, 950), repeat=2))


class CheckScriptTest(Case):
    def refused(self, item, image=(0, 1, 2)):
        with self.subTest(item):
            self.assertFails(InvalidLine, {"at": 0}, check_script, [item], image)
            self.assertFails(InvalidLine, {"at": 2}, check_script, [GOOD, GOOD, item, GOOD], image)

    def taken(self, item, image=(0, 1, 2)):
        with self.subTest(item):
            self.assertIsNone(check_script([item], image))
            self.assertIsNone(check_script([GOOD, item], image))

    def test_scripts(self):
        self.assertIsNone(check_script([], (0,)))
        self.assertIsNone(check_script([("clear", 0, -1, "")], (0,)))
        self.assertIsNone(check_script([("clear", 0, -1, "*"), ("clear", 0, -1, "-")], (-1,)))
        self.assertIsNone(check_script([("move", 11, 0, "-" * 12)], tuple(range(12))))

    def test_every_line_is_taken(self):
        for line in all_lines(3, ("", "---", ".*-", "059")):
            self.taken(line)

    def test_every_sign_of_a_guard(self):
        for sign in ".*-0123456789":
            self.taken(("copy", 0, 1, sign * 3))
            self.taken(("clear", 0, -1, "--" + sign))

    def test_not_a_tuple(self):
        for item in (["copy", 1, 0, ""], None, "copy", "", 4, {}, b"copy"):
            self.refused(item)

    def test_other_number_of_items(self):
        for item in ((), ("copy",), ("copy", 1), ("copy", 1, 0), ("clear", 1, -1), ("copy", 1, 0, "", "")):
            self.refused(item)

    def test_unknown_word(self):
        for op in ("", "swap", "Copy", "copy ", "clea", "cop", "clear copy", None, 0, ("copy",), ["copy"], b"copy"):
            self.refused((op, 1, 0, ""))
            self.refused((op, 1, -1, ""))

    def test_target(self):
        for target in (-1, -2, 3, 12, 10 ** 20, None, "1", (1,), [1], 1.0):
            self.refused(("copy", target, 0, ""))
            self.refused(("move", target, 0, ""))
            self.refused(("clear", target, -1, ""))

    def test_source(self):
        for source in (-1, -2, 3, 12, 10 ** 20, None, "0", (0,), [0], 0.0):
            self.refused(("copy", 1, source, ""))
            self.refused(("move", 1, source, ""))

    def test_the_number_of_blocks_counts(self):
        for blocks in range(1, 12):
            image = tuple(range(blocks))
            self.assertIsNone(check_script([("clear", blocks - 1, -1, "")], image))
            self.assertFails(InvalidLine, {"at": 0}, check_script, [("clear", blocks, -1, "")], image)
            self.assertFails(InvalidLine, {"at": 0}, check_script, [("copy", 0, blocks, "")], image)
            self.assertFails(InvalidLine, {"at": 0}, check_script, [("copy", blocks, 0, "")], image)

    def test_source_that_is_the_target(self):
        for block in range(3):
            self.refused(("copy", block, block, ""))
            self.refused(("move", block, block, ""))

    def test_source_of_a_clear(self):
        for source in (0, 1, 2, -2, 3, None, "", "-1", -1.0, (-1,)):
            self.refused(("clear", 1, source, ""))

    def test_length_of_a_guard(self):
        for guard in ("-", "--", "----", "-" * 12):
            self.refused(("copy", 1, 0, guard))
            self.refused(("clear", 1, -1, guard))

    def test_wrong_signs_of_a_guard(self):
        for sign in "ax+/ :,?\n\tX_":
            for at in range(3):
                self.refused(("copy", 1, 0, "-" * at + sign + "-" * (2 - at)))

    def test_guard_of_another_kind(self):
        for guard in (None, 0, -1, (), ("-", "-", "-"), [], ["-", "-", "-"], b"", b"---", {}):
            self.refused(("copy", 1, 0, guard))
            self.refused(("clear", 1, -1, guard))

    def test_number_of_lines(self):
        self.assertIsNone(check_script([GOOD] * 59, (0, 1)))
        self.assertIsNone(check_script([GOOD] * 60, (0, 1)))
        for length in (61, 62, 200):
            self.assertFails(InvalidLine, {"at": -1}, check_script, [GOOD] * length, (0, 1))
        self.assertFails(InvalidLine, {"at": -1}, check_script, [None] * 61, (0, 1))
        self.assertFails(InvalidLine, {"at": 59}, check_script, [GOOD] * 59 + [None], (0, 1))

    def test_no_list(self):
        for script in ((), (GOOD,), None, "", "copy", 0, 5, {}, b""):
            with self.subTest(repr(script)):
                self.assertFails(InvalidLine, {"at": -1}, check_script, script, (0, 1))

    def test_first_of_two_wrong_lines(self):
        self.assertFails(InvalidLine, {"at": 1}, check_script, [GOOD, None, GOOD, ("copy", 0, 0, "")], (0, 1))
        self.assertFails(InvalidLine, {"at": 0}, check_script, [("copy", 5, 0, ""), None], (0, 1))

    def test_image_comes_first(self):
        self.assertFails(InvalidImage, {"block": -1}, check_script, None, [])
        self.assertFails(InvalidImage, {"block": 1}, check_script, [None], (0, 1000))
        self.assertFails(InvalidImage, {"block": 0}, check_script, [GOOD] * 61, (None,))
        self.assertFails(InvalidImage, {"block": -1}, check_script, [], (0,) * 13)


class MatchesTest(unittest.TestCase):
    def test_each_sign(self):
        for sign, seen in itertools.product(".*-0123456789", ".0123456789"):
            with self.subTest((sign, seen)):
                fits = sign == "-" or sign == seen or (sign == "*" and seen != ".")
                self.assertIs(fits, matches(sign, seen))

    def test_empty_guard(self):
        for view in (".", "0", "9", "..", ".09", "." * 12):
            self.assertIs(True, matches("", view))

    def test_all_signs_must_match(self):
        for guard, view in itertools.product(SMALL_GUARDS, [".", "0", "1", "9"]):
            for other in ".0199":
                self.assertIs(slow_matches(guard, view + other), matches(guard, view + other))

    def test_at_each_place(self):
        for at in range(12):
            view = "." * at + "3" + "." * (11 - at)
            self.assertIs(True, matches("-" * at + "3" + "-" * (11 - at), view))
            self.assertIs(True, matches("." * at + "*" + "." * (11 - at), view))
            self.assertIs(False, matches("-" * at + "." + "-" * (11 - at), view))
            self.assertIs(False, matches("-" * at + "4" + "-" * (11 - at), view))


class FiresTest(unittest.TestCase):
    def test_empty_source(self):
        for op in ("copy", "move"):
            self.assertIs(True, fires((op, 0, 1, ""), ".0"))
            self.assertIs(True, fires((op, 0, 1, ""), "00"))
            self.assertIs(False, fires((op, 0, 1, ""), "0."))
            self.assertIs(False, fires((op, 0, 1, ""), ".."))
            self.assertIs(False, fires((op, 0, 1, "-."), "0."))

    def test_clear_needs_no_source(self):
        for view in ("..", "0.", ".0", "55"):
            self.assertIs(True, fires(("clear", 0, -1, ""), view))
            self.assertIs(True, fires(("clear", 1, -1, "--"), view))

    def test_guard(self):
        for op, source in (("copy", 1), ("move", 1), ("clear", -1)):
            self.assertIs(True, fires((op, 0, source, ".2"), ".2"))
            self.assertIs(False, fires((op, 0, source, ".2"), ".3"))
            self.assertIs(False, fires((op, 0, source, ".2"), "12"))
            self.assertIs(True, fires((op, 0, source, "**"), "12"))
            self.assertIs(False, fires((op, 0, source, "*."), "12"))


class WhatALineDoesTest(unittest.TestCase):
    def test_examples(self):
        self.assertEqual((0, 2, -1), sources(("move", 1, 2, ""), "0.1"))
        self.assertEqual((0, -1, 2), sources(("move", 0, 2, ".--"), "0.1"))

    def test_sources_of_lines_that_fire(self):
        self.assertEqual((1, 1, 2), sources(("copy", 0, 1, ""), "012"))
        self.assertEqual((1, 1, -1), sources(("copy", 0, 1, ""), ".1."))
        self.assertEqual((1, -1, 2), sources(("move", 0, 1, "***"), "012"))
        self.assertEqual((-1, 1, 2), sources(("clear", 0, -1, ""), "012"))
        self.assertEqual((0, 1, -1), sources(("clear", 2, -1, "01-"), "012"))
        self.assertEqual((-1, -1, 2), sources(("clear", 0, -1, ""), "..2"))

    def test_sources_of_lines_that_are_skipped(self):
        self.assertEqual((0, -1, 2), sources(("copy", 0, 1, ""), "0.2"))
        self.assertEqual((0, 1, 2), sources(("clear", 0, -1, "1--"), "012"))
        self.assertEqual((-1, 1, 2), sources(("copy", 0, 1, "*--"), ".12"))
        self.assertEqual((-1,), sources(("clear", 0, -1, "*"), "."))

    def test_apply_line(self):
        self.assertEqual((120, 120, -1), apply_line(("copy", 0, 1, ""), (5, 120, -1)))
        self.assertEqual((120, -1, 7), apply_line(("move", 0, 1, "*1-"), (5, 120, 7)))
        self.assertEqual((5, -1, 7), apply_line(("clear", 1, -1, "-1-"), (5, 120, 7)))
        self.assertEqual((5, 120, 7), apply_line(("clear", 1, -1, "-2-"), (5, 120, 7)))
        self.assertEqual((5, -1), apply_line(("move", 0, 1, ""), (5, -1)))

    def test_look_after(self):
        self.assertEqual("11.", look_after(("copy", 0, 1, ""), "01."))
        self.assertEqual("1..", look_after(("move", 0, 1, ""), "01."))
        self.assertEqual(".1.", look_after(("clear", 0, -1, ""), "01."))
        self.assertEqual("01.", look_after(("copy", 0, 2, ""), "01."))
        self.assertEqual("01.", look_after(("clear", 0, -1, "1--"), "01."))

    def test_all_small_lines_against_the_slow_way(self):
        for line in all_lines(2, SMALL_GUARDS):
            for image in SMALL_IMAGES:
                view = slow_look(image)
                after = slow_apply(line, image)
                self.assertEqual(after, apply_line(line, image))
                self.assertEqual(slow_look(after), look_after(line, view))
                self.assertEqual(after, tuple(-1 if at == -1 else image[at] for at in sources(line, view)))

    def test_every_image_with_the_look_follows_the_sources(self):
        for line in all_lines(3, ("", "-1-", "*--", "--.")):
            for image in itertools.product((-1, 3, 40, 111), repeat=3):
                self.assertEqual(apply_line(line, image),
                                 tuple(-1 if at == -1 else image[at] for at in sources(line, look(image))))

    def test_sources_tell_empty_and_full_blocks(self):
        for line in all_lines(2, SMALL_GUARDS):
            for view in itertools.product(".015", repeat=2):
                view = "".join(view)
                for at in sources(line, view):
                    self.assertTrue(at == -1 or view[at] != ".")

    def test_twice_in_a_row_is_once(self):
        for line in all_lines(2, SMALL_GUARDS):
            for image in SMALL_IMAGES:
                once = apply_line(line, image)
                self.assertEqual(once, apply_line(line, once))

    def test_kinds_of_values(self):
        line = ("move", 0, 1, "")
        self.assertIsInstance(sources(line, "01"), tuple)
        self.assertIsInstance(apply_line(line, (0, 1)), tuple)
        self.assertIsInstance(look_after(line, "01"), str)


if __name__ == "__main__":
    unittest.main()
