"""Point 38: groups, reach, knots and root sets."""
import random
import unittest

from helpers import Case, all_logs, random_log
from redolots.copylog import copies
from redolots.errors import InvalidLine, NotPlain
from redolots.joins import groups, knots, root_sets, within_reach
from redolots.orders import late_order, late_outcomes
from redolots.repeats import late_lots, repeats, settled

CALLS = [groups, within_reach, knots, root_sets, late_order, late_outcomes, late_lots, settled, repeats]


def slow_reach(pairs, blocks):
    """All pairs (a, b) of a block and one within its reach, grown until nothing is added."""
    reach = {(block, block) for block in range(blocks)}
    while True:
        more = {(a, target) for a, b in reach for target, source in pairs if source == b}
        if more <= reach:
            return reach
        reach |= more


def slow_sets(reach, blocks):
    """The largest sets of blocks of which each pair is within reach both ways, ascending."""
    found = {tuple(b for b in range(blocks) if (a, b) in reach and (b, a) in reach) for a in range(blocks)}
    return sorted(found)


def slow_groups(log, blocks):
    pairs = [(target, source) for _, target, source, _ in log]
    return slow_sets(slow_reach(pairs + [pair[::-1] for pair in pairs], blocks), blocks)


def slow_roots(log, blocks):
    pairs = [(target, source) for _, target, source, _ in log]
    sets = slow_sets(slow_reach(pairs, blocks), blocks)
    roots = [blocks_in for blocks_in in sets
             if not any(target in blocks_in and source not in blocks_in for target, source in pairs)]
    return [[root for root in roots if set(root) <= set(group)] for group in slow_groups(log, blocks)]


def some_logs():
    yield [], 1
    yield [], 5
    for log in all_logs(3, 4):
        yield log, 3
    chance = random.Random(38)
    for _ in range(300):
        blocks = chance.randrange(2, 9)
        yield random_log(chance, blocks, chance.randrange(10)), blocks
    for _ in range(20):
        yield random_log(chance, 12, chance.randrange(61)), 12


class JoinsTest(Case):
    def test_without_lines(self):
        self.assertEqual([(0,), (1,), (2,)], groups([], 3))
        self.assertEqual(((0,), (1,), (2,)), within_reach([], 3))
        self.assertEqual([], knots([], 3))
        self.assertEqual([[(0,)], [(1,)], [(2,)]], root_sets([], 3))

    def test_a_block_without_lines(self):
        log = copies((4, 0))
        self.assertEqual([(0, 4), (1,), (2,), (3,)], groups(log, 5))
        self.assertEqual(((0, 4), (1,), (2,), (3,), (4,)), within_reach(log, 5))
        self.assertEqual([[(0,)], [(1,)], [(2,)], [(3,)]], root_sets(log, 5))

    def test_several_root_sets(self):
        log = copies((2, 4), (2, 0), (3, 1), (1, 3), (2, 1))
        self.assertEqual([(0, 1, 2, 3, 4)], groups(log, 5))
        self.assertEqual([(1, 3)], knots(log, 5))
        self.assertEqual([[(0,), (1, 3), (4,)]], root_sets(log, 5))
        self.assertEqual(((0, 2), (1, 2, 3), (2,), (1, 2, 3), (2, 4)), within_reach(log, 5))

    def test_knots_outside_of_root_sets(self):
        log = copies((1, 0), (2, 1), (1, 2), (5, 4), (4, 5), (3, 5))
        self.assertEqual([(0, 1, 2), (3, 4, 5)], groups(log, 6))
        self.assertEqual([(1, 2), (4, 5)], knots(log, 6))
        self.assertEqual([[(0,)], [(4, 5)]], root_sets(log, 6))

    def test_a_ring_of_three_and_two_knots_that_touch(self):
        log = copies((1, 0), (2, 1), (0, 2), (3, 2), (3, 4), (4, 3))
        self.assertEqual([(0, 1, 2), (3, 4)], knots(log, 5))
        self.assertEqual([[(0, 1, 2)]], root_sets(log, 5))
        log = copies((1, 0), (0, 1), (2, 1), (1, 2))
        self.assertEqual([(0, 1, 2)], knots(log, 3))

    def test_against_a_slow_search(self):
        for log, blocks in some_logs():
            with self.subTest((log, blocks)):
                reach = slow_reach([(target, source) for _, target, source, _ in log], blocks)
                self.assertEqual(tuple(tuple(b for b in range(blocks) if (a, b) in reach) for a in range(blocks)),
                                 within_reach(log, blocks))
                self.assertEqual([found for found in slow_sets(reach, blocks) if len(found) > 1], knots(log, blocks))
                self.assertEqual(slow_groups(log, blocks), groups(log, blocks))
                self.assertEqual(slow_roots(log, blocks), root_sets(log, blocks))

    def test_each_block_is_in_one_group_that_has_a_root_set(self):
        for log, blocks in some_logs():
            found = groups(log, blocks)
            self.assertEqual(list(range(blocks)), sorted(block for group in found for block in group))
            self.assertEqual(len(found), len(root_sets(log, blocks)))
            self.assertTrue(all(root_sets(log, blocks)))

    def test_lists_are_new(self):
        log = copies((1, 0), (0, 1))
        for call in (groups, knots, root_sets):
            told = call(log, 2)
            call(log, 2).clear()
            self.assertEqual(told, call(log, 2))
        root_sets(log, 2)[0].clear()
        self.assertEqual([[(0, 1)]], root_sets(log, 2))
        self.assertEqual(copies((1, 0), (0, 1)), log)


class ErrorsTest(Case):
    def told(self, error, at, script, blocks):
        for call in CALLS:
            with self.subTest(call.__name__):
                self.assertFails(error, {"at": at}, call, script, blocks)

    def test_wrong_lines(self):
        self.told(InvalidLine, -1, tuple(copies((1, 0))), 4)
        self.told(InvalidLine, -1, None, 4)
        self.told(InvalidLine, -1, copies((1, 0)) * 61, 4)
        self.told(InvalidLine, 1, copies((1, 0), (1, 3)), 3)
        self.told(InvalidLine, 0, copies((0, 0)), 1)

    def test_lines_that_are_not_plain(self):
        for line in (("move", 1, 0, ""), ("clear", 1, -1, ""), ("copy", 1, 0, "----")):
            self.told(NotPlain, 0, [line] + copies((1, 0)), 4)
            self.told(NotPlain, 2, copies((1, 0), (1, 2)) + [line, line], 4)

    def test_wrong_lines_come_first(self):
        self.told(InvalidLine, 2, [("clear", 0, -1, "")] + copies((1, 0), (1, 1)), 2)


if __name__ == "__main__":
    unittest.main()
