"""Points 32 to 36: what makes a copy log unsafe, and how much it stands."""
import random
import unittest

from helpers import Case, all_logs, random_log
from redolots.copylog import copies, idle_lines, matters, origins, without_idle
from redolots.errors import IdleLine, InvalidLine, NotPlain
from redolots.images import home
from redolots.lots import Lots
from redolots.rules import FromMark, FromTop, Late
from redolots.runs import is_complete, play
from redolots.spoilers import late_spoiler, mark_spoiler, spoiling_run, strength, top_spoiler

LOG = copies((1, 0), (2, 1), (1, 3))
RULES = {"top": FromTop(), "mark": FromMark(), "late": Late()}


def slow_top(log, blocks):
    """Point 32, written out once more."""
    final = origins(log, blocks)
    found = [(position, block) for position in range(len(log) + 1) for block in range(blocks)
             if block in final and origins(log, blocks, position)[block] != block]
    return min(found, default=None)


def slow_mark(log, blocks):
    """Point 33, written out once more: the line first, then the position."""
    found = [(at, position) for at, (_, target, _, _) in enumerate(log) for position in range(at + 1)
             if target in matters(log, blocks, position)]
    return min(found)[::-1] if found else None


def slow_late(log, blocks):
    """Point 34, written out once more."""
    final = origins(log, blocks)
    last = [max([at for at, line in enumerate(log) if line[1] == block], default=-1) for block in range(blocks)]
    found = [at for at, (_, target, source, _) in enumerate(log)
             if not (last[source] < last[target] and final[source] == final[target])]
    return min(found, default=None)


def some_logs():
    """All small logs, and some greater ones."""
    for log in all_logs(2, 4):
        yield log, 2
    for log in all_logs(3, 4):
        yield log, 3
    chance = random.Random(32)
    for _ in range(400):
        blocks = chance.randrange(3, 7)
        yield random_log(chance, blocks, chance.randrange(3, 9)), blocks


def is_safe(log, blocks, word):
    return Lots(log, home(blocks), RULES[word]).is_safe


class TopTest(Case):
    def test_example(self):
        log = copies((1, 0), (2, 1), (1, 3))
        self.assertEqual((None, (1, 2), 0), (top_spoiler(log, 4), mark_spoiler(log, 4), late_spoiler(log, 4)))

    def test_none(self):
        self.assertIsNone(top_spoiler([], 1))
        self.assertIsNone(top_spoiler(copies((1, 0), (2, 0)), 3))

    def test_least_position_and_block(self):
        # The number of block 0 goes away and comes back.
        self.assertEqual((2, 0), top_spoiler(copies((2, 0), (0, 1), (0, 2)), 3))
        self.assertEqual((3, 0), top_spoiler(copies((2, 0), (3, 1), (0, 1), (1, 2), (0, 3)), 4))
        # A number that ends elsewhere alone is missing at home at the last position.
        self.assertEqual((2, 0), top_spoiler(copies((1, 0), (0, 2)), 3))
        # A block whose own number is lost may hold anything.
        self.assertIsNone(top_spoiler(copies((1, 0), (1, 2), (1, 0)), 3))

    def test_against_the_words_and_lots(self):
        unsafe = 0
        for log, blocks in some_logs():
            with self.subTest(log):
                told = top_spoiler(log, blocks)
                self.assertEqual(slow_top(log, blocks), told)
                self.assertIs(is_safe(log, blocks, "top"), told is None)
                unsafe += told is not None
        self.assertTrue(unsafe > 100)


class MarkTest(Case):
    def test_none(self):
        self.assertIsNone(mark_spoiler([], 1))
        self.assertIsNone(mark_spoiler(copies((1, 0), (2, 0)), 3))

    def test_the_line_comes_first(self):
        # Block 2 matters earlier than block 1, but line 2 writes on block 1.
        log = copies((1, 0), (3, 1), (1, 2), (2, 0))
        self.assertEqual((1, 2), mark_spoiler(log, 4))
        self.assertIn(2, matters(log, 4, 0))

    def test_a_line_at_its_own_position(self):
        self.assertEqual((0, 1), mark_spoiler(copies((1, 0), (0, 2)), 3))

    def test_against_the_words_and_lots(self):
        told = [0, 0]
        for log, blocks in some_logs():
            with self.subTest(log):
                spoiler = mark_spoiler(log, blocks)
                self.assertEqual(slow_mark(log, blocks), spoiler)
                safe = is_safe(log, blocks, "mark")
                if spoiler is None:
                    self.assertTrue(safe)
                elif not idle_lines(log, blocks):
                    self.assertFalse(safe)
                told[safe] += not idle_lines(log, blocks)
        self.assertTrue(min(told) > 100)


class LateTest(Case):
    def test_none(self):
        self.assertIsNone(late_spoiler([], 1))
        self.assertIsNone(late_spoiler(copies((1, 0), (2, 1)), 3))

    def test_writes_in_the_wrong_order(self):
        self.assertEqual(0, late_spoiler(copies((2, 1), (1, 0)), 3))
        self.assertEqual(1, late_spoiler(copies((1, 0), (2, 1), (1, 0)), 3))
        self.assertEqual(0, late_spoiler(copies((1, 0), (0, 1)), 2))

    def test_other_numbers_at_the_end(self):
        self.assertEqual(0, late_spoiler(copies((1, 0), (1, 2)), 3))
        self.assertEqual(0, late_spoiler(copies((1, 0), (2, 1), (1, 3)), 4))
        self.assertEqual(1, late_spoiler(copies((3, 0), (1, 0), (1, 2)), 4))

    def test_a_log_with_idle_lines_may_be_safe(self):
        log = copies((1, 0), (2, 1), (1, 0))
        self.assertEqual((1, [2], True), (late_spoiler(log, 3), idle_lines(log, 3), is_safe(log, 3, "late")))

    def test_against_the_words_and_lots(self):
        told = [0, 0]
        for log, blocks in some_logs():
            with self.subTest(log):
                spoiler = late_spoiler(log, blocks)
                self.assertEqual(slow_late(log, blocks), spoiler)
                safe = is_safe(log, blocks, "late")
                if spoiler is None:
                    self.assertTrue(safe)
                elif not idle_lines(log, blocks):
                    self.assertFalse(safe)
                told[safe] += not idle_lines(log, blocks)
        self.assertTrue(min(told) > 30)


class SpoilingRunTest(Case):
    def check(self, log, blocks, word):
        run = spoiling_run(log, blocks, word)
        self.assertTrue(is_complete(RULES[word], run, len(log)))
        self.assertNotEqual(origins(log, blocks), play(log, home(blocks), RULES[word], run))

    def test_of_a_copy_log(self):
        self.assertIsNone(spoiling_run(LOG, 4, "top"))
        self.check(LOG, 4, "mark")
        self.check(LOG, 4, "late")

    def test_none(self):
        for word in RULES:
            self.assertIsNone(spoiling_run([], 1, word))
            self.assertIsNone(spoiling_run(copies((1, 0), (2, 0)), 3, word))

    def test_all_small_logs(self):
        spoilers = {"top": top_spoiler, "mark": mark_spoiler, "late": late_spoiler}
        for log, blocks in some_logs():
            idle = idle_lines(log, blocks)
            for word in RULES:
                with self.subTest((log, word)):
                    if idle and word != "top":
                        self.assertFails(IdleLine, {"at": idle[0]}, spoiling_run, log, blocks, word)
                    elif spoilers[word](log, blocks) is None:
                        self.assertIsNone(spoiling_run(log, blocks, word))
                    else:
                        self.check(log, blocks, word)

    def test_idle_lines(self):
        safe = copies((1, 0), (2, 0), (1, 0), (1, 2))
        self.assertIsNone(late_spoiler(safe[:3], 3))
        for word in ("mark", "late"):
            self.assertFails(IdleLine, {"at": 2}, spoiling_run, safe, 3, word)
            self.assertFails(IdleLine, {"at": 2}, spoiling_run, safe[:3], 3, word)
            self.assertFails(IdleLine, {"at": 2}, spoiling_run, safe + copies((0, 3)), 4, word)
        self.assertIsNone(spoiling_run(safe, 3, "top"))
        self.check(copies((2, 0), (2, 0), (0, 1), (0, 2)), 3, "top")

    def test_idle_lines_come_behind_the_other_errors(self):
        idle = copies((1, 0), (1, 0))
        for word in RULES:
            self.assertFails(InvalidLine, {"at": 2}, spoiling_run, idle + copies((1, 1)), 2, word)
            self.assertFails(NotPlain, {"at": 2}, spoiling_run, idle + [("clear", 1, -1, "")], 2, word)

    def test_long_logs(self):
        chance = random.Random(35)
        for _ in range(3):
            log = without_idle(random_log(chance, 12, 60), 12)
            for word in RULES:
                self.check(log, 12, word)


class StrengthTest(Case):
    def test_all_words(self):
        self.assertEqual("late", strength(copies((1, 0), (2, 0)), 3))
        self.assertEqual("late", strength([], 3))
        self.assertEqual("mark", strength(copies((1, 0), (1, 2)), 3))
        self.assertEqual("top", strength(LOG, 4))
        self.assertEqual("none", strength(copies((2, 0), (0, 1), (0, 2)), 3))

    def test_logs_with_idle_lines(self):
        self.assertEqual("late", strength(copies((1, 0), (2, 1), (1, 0)), 3))
        self.assertEqual("late", strength(copies((1, 0), (0, 1)), 2))

    def test_against_lots(self):
        words = []
        for log, blocks in some_logs():
            safe = [word for word in ("late", "mark", "top") if is_safe(log, blocks, word)]
            words.append(strength(log, blocks))
            self.assertEqual((safe + ["none"])[0], words[-1])
            self.assertEqual(safe, ["late", "mark", "top"][3 - len(safe):])
        self.assertTrue(min([words.count(word) for word in ("late", "mark", "top", "none")]) > 20)


if __name__ == "__main__":
    unittest.main()
