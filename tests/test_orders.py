"""Point 39: late orders and their outcomes."""
import itertools
import random
import unittest

from helpers import Case, all_logs, random_log
from redolots.copylog import copies
from redolots.errors import InvalidLine, NotARoot, NotPlain, TwoRoots
from redolots.images import home
from redolots.joins import groups, root_sets
from redolots.lots import Lots
from redolots.orders import late_order, late_outcomes, reordered
from redolots.rules import Late


def safe_outcomes(log, blocks):
    """The final images of all safe orders, by trying all orders."""
    found = set()
    for order in set(itertools.permutations(log)):
        lots = Lots(list(order), home(blocks), Late())
        if lots.is_safe:
            found.add(lots.final)
    return found


def some_logs():
    yield [], 1
    yield [], 3
    for log in all_logs(3, 3):
        yield log, 3
    chance = random.Random(39)
    for _ in range(60):
        blocks = chance.randrange(2, 6)
        yield random_log(chance, blocks, chance.randrange(2, 6)), blocks


def outcome(log, blocks, roots):
    """The image in which each block holds the root of its group."""
    return tuple(root for block in range(blocks) for root, group in zip(roots, groups(log, blocks)) if block in group)


class OrderTest(Case):
    def check(self, log, blocks, roots, order):
        self.assertIsInstance(order, tuple)
        self.assertEqual(list(range(len(log))), sorted(order))
        lots = Lots([log[at] for at in order], home(blocks), Late())
        self.assertIs(True, lots.is_safe)
        self.assertEqual(outcome(log, blocks, roots), lots.final)

    def test_example(self):
        self.assertEqual((0, 1), late_order(copies((1, 3), (3, 1)), 4, (0, 3, 2)))

    def test_the_other_root(self):
        self.assertEqual((1, 0), late_order(copies((1, 3), (3, 1)), 4, (0, 1, 2)))
        self.assertEqual((1, 0), late_order(copies((1, 3), (3, 1)), 4))
        self.assertEqual((1, 0), late_order(copies((2, 1), (1, 0)), 3))

    def test_the_empty_log(self):
        self.assertEqual((), late_order([], 1))
        self.assertEqual((), late_order([], 2, (0, 1)))

    def test_all_choices(self):
        for log, blocks in some_logs():
            choices = root_sets(log, blocks)
            if max(len(sets) for sets in choices) > 1:
                continue
            with self.subTest((log, blocks)):
                for roots in itertools.product(*[sets[0] for sets in choices]):
                    self.check(log, blocks, roots, late_order(log, blocks, roots))
                self.check(log, blocks, [sets[0][0] for sets in choices], late_order(log, blocks))
                self.check(log, blocks, [sets[0][0] for sets in choices], late_order(log, blocks, None))

    def test_long_logs(self):
        chance = random.Random(40)
        found = 0
        while found < 20:
            blocks = chance.randrange(6, 13)
            log = random_log(chance, blocks, chance.randrange(20, 61))
            choices = root_sets(log, blocks)
            if max(len(sets) for sets in choices) == 1:
                roots = tuple(chance.choice(sets[0]) for sets in choices)
                self.check(log, blocks, roots, late_order(log, blocks, roots))
                found += 1

    def test_some_order_is_safe_exactly_if_each_group_has_one_root_set(self):
        told = [0, 0]
        for log, blocks in some_logs():
            one = all(len(sets) == 1 for sets in root_sets(log, blocks))
            self.assertIs(one, bool(safe_outcomes(log, blocks)))
            told[one] += 1
        self.assertTrue(min(told) > 20)

    def test_two_roots(self):
        log = copies((2, 4), (2, 0), (3, 1), (1, 3), (2, 1))
        self.assertFails(TwoRoots, {"first": (0,), "second": (1, 3)}, late_order, log, 5)
        self.assertFails(TwoRoots, {"first": (1, 2), "second": (4,)}, late_order,
                         copies((3, 4), (1, 2), (2, 1), (3, 2), (3, 5)), 6)
        # The group of block 0 has one root set, and that of block 1 comes before that of block 2.
        log = copies((5, 2), (5, 6), (3, 1), (3, 4))
        self.assertFails(TwoRoots, {"first": (1,), "second": (4,)}, late_order, log, 7)
        self.assertFails(TwoRoots, {"first": (1,), "second": (4,)}, late_order, log, 7, (9, 9, 9))

    def test_not_a_root(self):
        log = copies((1, 0), (3, 2), (2, 3))
        self.assertEqual([[(0,)], [(2, 3)]], root_sets(log, 4))
        self.assertFails(NotARoot, {"block": 1}, late_order, log, 4, (1, 2))
        self.assertFails(NotARoot, {"block": 1}, late_order, log, 4, (1, 0))
        self.assertFails(NotARoot, {"block": 0}, late_order, log, 4, (0, 0))
        self.assertFails(NotARoot, {"block": 12}, late_order, log, 4, (0, 12))
        self.assertFails(NotARoot, {"block": -1}, late_order, log, 4, (-1, 3))
        self.assertFails(NotARoot, {"block": 2}, late_order, log, 4, (2, 0))

    def test_the_errors_come_in_order(self):
        log = copies((1, 0), (1, 2))
        self.assertFails(InvalidLine, {"at": 3}, late_order, log + [("clear", 0, -1, ""), 3], 3, (7,))
        self.assertFails(NotPlain, {"at": 2}, late_order, log + [("clear", 0, -1, "")], 3, (7,))
        self.assertFails(TwoRoots, {"first": (0,), "second": (2,)}, late_order, log, 3, (7,))
        self.assertFails(NotARoot, {"block": 7}, late_order, log[:1], 3, (7, 2))


class OutcomesTest(Case):
    def test_example(self):
        self.assertEqual(2, late_outcomes(copies((0, 1), (1, 0)), 2))

    def test_counts(self):
        self.assertEqual(1, late_outcomes([], 12))
        self.assertEqual(0, late_outcomes(copies((1, 0), (1, 2)), 3))
        self.assertEqual(1, late_outcomes(copies((1, 0), (2, 1), (1, 2)), 3))
        self.assertEqual(6, late_outcomes(copies((0, 1), (1, 0), (2, 3), (3, 4), (4, 2), (5, 4)), 6))
        self.assertEqual(0, late_outcomes(copies((0, 1), (1, 0), (2, 3), (3, 4), (4, 2), (5, 4), (5, 6)), 7))

    def test_against_all_orders(self):
        for log, blocks in some_logs():
            with self.subTest((log, blocks)):
                self.assertEqual(len(safe_outcomes(log, blocks)), late_outcomes(log, blocks))

    def test_long_logs(self):
        ring = [((at + 1) % 12, at) for at in range(12)]
        self.assertEqual(12, late_outcomes(copies(*ring * 5), 12))


class ReorderedTest(Case):
    def test_reordered(self):
        log = copies((1, 0), (2, 1), (0, 2))
        self.assertEqual(copies((0, 2), (1, 0), (2, 1)), reordered(log, (2, 0, 1)))
        self.assertEqual(log, reordered(log, (0, 1, 2)))
        self.assertEqual([], reordered([], ()))

    def test_lists_are_new(self):
        log = copies((1, 0), (2, 1))
        reordered(log, (0, 1)).clear()
        self.assertEqual(copies((1, 0), (2, 1)), log)

    def test_of_late_orders(self):
        for log, blocks in some_logs():
            if late_outcomes(log, blocks):
                self.assertIs(True, Lots(reordered(log, late_order(log, blocks)), home(blocks), Late()).is_safe)


if __name__ == "__main__":
    unittest.main()
