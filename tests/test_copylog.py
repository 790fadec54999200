"""Points 29 to 31: copy logs, origins and the blocks that matter, idle lines."""
import random
import unittest

from helpers import Case, all_logs, random_log, slow_apply
from redolots.copylog import copies, idle_lines, matters, origins, pairs, without_idle
from redolots.errors import InvalidLine, NotPlain
from redolots.images import home
from redolots.plain import plain_run
from redolots.spoilers import late_spoiler, mark_spoiler, spoiling_run, strength, top_spoiler

LOG = copies((1, 0), (2, 1), (1, 3))
# The functions that take a copy log, with the arguments behind the number of blocks.
CALLS = [(origins, ()), (origins, (0,)), (matters, (0,)), (idle_lines, ()), (without_idle, ()), (top_spoiler, ()),
         (mark_spoiler, ()), (late_spoiler, ()), (spoiling_run, ("top",)), (spoiling_run, ("mark",)),
         (spoiling_run, ("late",)), (strength, ())]


def slow_origins(log, blocks, position):
    image = home(blocks)
    for line in log[:position]:
        image = slow_apply(line, image)
    return image


def slow_matters(log, blocks, position):
    """Marks the values at the position and sees which reach the end."""
    return tuple(sorted(set(slow_origins(log[position:], blocks, len(log)))))


class CopiesTest(Case):
    def test_copies(self):
        self.assertEqual([("copy", 1, 0, ""), ("copy", 0, 11, "")], copies((1, 0), (0, 11)))
        self.assertEqual([], copies())

    def test_pairs(self):
        self.assertEqual([(1, 0), (2, 1), (1, 3)], pairs(LOG))
        self.assertEqual([], pairs([]))
        for log in all_logs(3, 2):
            self.assertEqual(log, copies(*pairs(log)))

    def test_lists_are_new(self):
        log = copies((1, 0))
        pairs(log).append(3)
        self.assertEqual([("copy", 1, 0, "")], log)

    def test_pairs_of_other_scripts(self):
        for line in (("move", 1, 0, ""), ("clear", 1, -1, ""), ("copy", 1, 0, "--"), ("copy", 1, 0, "00")):
            self.assertFails(NotPlain, {"at": 0}, pairs, [line])
            self.assertFails(NotPlain, {"at": 2}, pairs, copies((1, 0), (0, 1)) + [line, ("clear", 0, -1, "")])


class ErrorsTest(Case):
    def told(self, error, at, script, blocks):
        for call, more in CALLS:
            with self.subTest((call.__name__, more)):
                self.assertFails(error, {"at": at}, call, script, blocks, *more)

    def test_wrong_lines(self):
        self.told(InvalidLine, -1, tuple(LOG), 4)
        self.told(InvalidLine, -1, None, 4)
        self.told(InvalidLine, -1, copies((1, 0)) * 61, 4)
        self.told(InvalidLine, 2, LOG, 3)
        self.told(InvalidLine, 0, copies((0, 0)), 1)
        self.told(InvalidLine, 1, [("copy", 1, 0, ""), ["copy", 1, 0, ""]], 2)
        self.told(InvalidLine, 0, [("copy", 0, 1, "-")], 2)

    def test_lines_that_are_not_plain(self):
        for line in (("move", 1, 0, ""), ("clear", 1, -1, ""), ("copy", 1, 0, "----"), ("move", 1, 0, "0.--")):
            self.told(NotPlain, 0, [line] + LOG, 4)
            self.told(NotPlain, 3, LOG + [line, line], 4)

    def test_wrong_lines_come_first(self):
        self.told(InvalidLine, 2, [("clear", 0, -1, "")] + copies((1, 0), (1, 1)), 2)
        self.told(InvalidLine, -1, [("clear", 0, -1, "")] * 61, 2)


class OriginsTest(Case):
    def test_each_position(self):
        told = [(0, 1, 2, 3), (0, 0, 2, 3), (0, 0, 0, 3), (0, 3, 0, 3)]
        self.assertEqual(told, [origins(LOG, 4, position) for position in range(4)])
        self.assertEqual((0, 3, 0, 3), origins(LOG, 4))
        self.assertEqual((0, 3, 0, 3), origins(LOG, 4, None))

    def test_the_empty_log(self):
        self.assertEqual((0, 1), origins([], 2))
        self.assertEqual((0,), origins([], 1, 0))

    def test_all_small_logs(self):
        for log in all_logs(3, 3):
            for position in range(len(log) + 1):
                self.assertEqual(slow_origins(log, 3, position), origins(log, 3, position))
            self.assertEqual(plain_run(log, home(3)), origins(log, 3))

    def test_long_logs(self):
        log = random_log(random.Random(1), 12, 60)
        for position in range(61):
            self.assertEqual(slow_origins(log, 12, position), origins(log, 12, position))
        self.assertEqual(slow_origins(log, 12, 60), origins(log, 12))


class MattersTest(Case):
    def test_each_position(self):
        self.assertEqual([(0, 3), (0, 1, 3), (0, 2, 3), (0, 1, 2, 3)],
                         [matters(LOG, 4, position) for position in range(4)])

    def test_copies_of_equal_numbers(self):
        # Blocks 0 and 1 hold the same number at position 1, and block 1 alone reaches the end.
        log = copies((1, 0), (0, 2))
        self.assertEqual((0, 0, 2), origins(log, 3, 1))
        self.assertEqual([(0, 2), (1, 2), (0, 1, 2)], [matters(log, 3, position) for position in range(3)])
        log = copies((1, 0), (0, 1))
        self.assertEqual([(0,), (1,), (0, 1)], [matters(log, 2, position) for position in range(3)])

    def test_the_last_position(self):
        self.assertEqual((0,), matters([], 1, 0))
        for log in all_logs(3, 3):
            self.assertEqual((0, 1, 2), matters(log, 3, len(log)))

    def test_all_small_logs(self):
        for log in all_logs(3, 3):
            for position in range(len(log) + 1):
                self.assertEqual(slow_matters(log, 3, position), matters(log, 3, position))

    def test_long_logs(self):
        log = random_log(random.Random(2), 12, 60)
        for position in range(61):
            self.assertEqual(slow_matters(log, 12, position), matters(log, 12, position))


class IdleTest(Case):
    def test_idle_lines(self):
        self.assertEqual([], idle_lines(LOG, 4))
        self.assertEqual([1, 3, 4], idle_lines(copies((1, 0), (1, 0), (2, 1), (2, 0), (0, 2), (0, 3)), 4))
        self.assertEqual([], idle_lines([], 4))

    def test_a_line_that_another_line_made_needed(self):
        self.assertEqual([], idle_lines(copies((1, 0), (1, 2), (1, 0)), 3))

    def test_without_idle(self):
        self.assertEqual(copies((1, 0), (2, 1), (0, 3)),
                         without_idle(copies((1, 0), (1, 0), (2, 1), (2, 0), (0, 2), (0, 3)), 4))
        self.assertEqual([], without_idle([], 4))

    def test_all_small_logs(self):
        for log in all_logs(3, 4):
            told = []
            for at, line in enumerate(log):
                image = slow_origins(log, 3, at)
                if slow_apply(line, image) == image:
                    told.append(at)
            self.assertEqual(told, idle_lines(log, 3))
            kept = without_idle(log, 3)
            self.assertEqual([line for at, line in enumerate(log) if at not in told], kept)
            self.assertEqual([], idle_lines(kept, 3))
            self.assertEqual(origins(log, 3), origins(kept, 3))

    def test_lists_are_new(self):
        log = copies((1, 0), (1, 0))
        without_idle(log, 2).append(3)
        without_idle(LOG, 4).append(3)
        idle_lines(log, 2).append(3)
        self.assertEqual((copies((1, 0), (1, 0)), 3, [1]), (log, len(LOG), idle_lines(log, 2)))


if __name__ == "__main__":
    unittest.main()
