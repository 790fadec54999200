"""Point 20: facts about the rules."""
import random
import unittest

from redolots.compare import accepts, compare
from redolots.machines import Lagging, Workers
from redolots.rules import FromMark, FromPoints, FromTop, Late, Rule
from redolots.runs import executed, is_complete

LENGTHS = (0, 1, 2, 3, 4, 7)
# Comparing these rules for long scripts goes beyond the limit of pairs.
FEW = (0, 1, 2, 3)


def some_rules(length):
    """Rules of points 13 to 15, with points within and beyond the length."""
    return [Rule(), FromTop(), FromMark(), FromPoints(()), FromPoints((1, 3)), FromPoints((1, 3), newest=False),
            FromPoints((2, length + 3)), Late(), Late(()), Late((0, 2)), FromTop() | Late((1,)), FromMark() | Late(),
            Lagging(0), Lagging(1), Lagging(99), Workers(1), Workers(2), Workers(3)]


class FactsTest(unittest.TestCase):
    def within(self, first, second, length):
        with self.subTest((str(first), str(second), length)):
            self.assertEqual("within", compare(first, second, length)[0])

    def test_first_times_in_order(self):
        chance = random.Random(14)
        for length in LENGTHS:
            for rule in some_rules(length):
                for _ in range(15):
                    run = []
                    state = rule.first_state()
                    for _ in range(25):
                        steps = rule.steps(state, length)
                        if steps:
                            run.append(chance.choice(steps))
                            state = run[-1][1]
                        lines = list(dict.fromkeys(executed(run)))
                        self.assertEqual(list(range(len(lines))), lines)
                        if is_complete(rule, run, length):
                            self.assertEqual(length, len(lines))

    def test_once_is_within_every_rule(self):
        for length in LENGTHS + (20, 60):
            for rule in some_rules(length):
                self.within(Rule(), rule, length)
                self.assertIs(True, accepts(rule, length, tuple(range(length))))

    def test_top_points_and_one_worker(self):
        for length in LENGTHS + (20, 60):
            same = [FromTop(), FromPoints(()), Workers(1)]
            for first in same:
                for second in same:
                    self.within(first, second, length)

    def test_points_are_within_marks(self):
        for length in LENGTHS:
            for points in ((), (1,), (2,), (1, 3), (3, 5, 99), (1, 2, 3, 4, 5, 6)):
                self.within(FromPoints(points), FromMark(), length)
                self.within(FromPoints(points, newest=False), FromMark(), length)

    def test_lagging(self):
        for length in LENGTHS:
            self.within(Lagging(0), Rule(), length)
            self.within(Rule(), Lagging(0), length)
            for age in (0, 1, 2, 3, 7, 98):
                self.within(Lagging(age), Lagging(age + 1), length)
                self.within(Lagging(age), FromMark(), length)
                if age >= length:
                    self.within(FromMark(), Lagging(age), length)
        for length in (2, 3, 4, 7):
            self.assertEqual("apart", compare(FromMark(), Lagging(length - 2), length)[0])
            self.assertEqual("apart", compare(Lagging(1), Rule(), length)[0])

    def test_workers(self):
        for length in FEW:
            self.within(Workers(1), Workers(2), length)
            self.within(Workers(2), Workers(3), length)
            if length > 1:
                self.assertEqual("apart", compare(Workers(2), Workers(1), length)[0])

    def test_all_are_within_late(self):
        for length in FEW:
            for rule in some_rules(length):
                self.within(rule, Late(), length)
        for length in LENGTHS:
            for rule in some_rules(length)[:-2]:
                self.within(rule, Late(), length)

    def test_marks_are_apart_from_the_top(self):
        for length in (2, 3, 4, 7, 20, 60):
            told = (0, 1, 1) + tuple(range(2, length))
            self.assertEqual(("apart", told), compare(FromMark(), FromTop(), length))

    def test_late_lines_are_apart_from_marks(self):
        for length in (2, 3, 4, 7, 20, 60):
            told = (0, 1, 0) + tuple(range(2, length))
            self.assertEqual(("apart", told), compare(Late(), FromMark(), length))


if __name__ == "__main__":
    unittest.main()
