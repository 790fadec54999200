"""Points 11, 13, 17 and 18: the simple rules."""
import unittest

from helpers import Case
from redolots.errors import InvalidRule
from redolots.machines import Lagging, Machine, Workers
from redolots.rules import Either, FromMark, FromPoints, FromTop, Late, Rule

LENGTHS = (0, 1, 2, 3, 5, 8, 59, 60)
SIMPLE = [Rule(), FromTop(), FromMark(), FromPoints(()), FromPoints((2, 5)), FromPoints((2, 5), newest=False),
          Late(), Late(()), Late((0, 2)), Either(FromTop()), Either(FromMark(), Late()), FromTop() | FromPoints((1,))]
OTHERS = [Lagging(2), Workers(1), Machine(1, (), (0,))]
NO_RULES = [None, 0, "top", (), FromTop]


def forward(position, length):
    return [(position, (position + 1,))] if position < length else []


def backward(positions):
    return [(-1, (position,)) for position in positions]


class CommonTest(Case):
    def test_restart(self):
        self.assertEqual(-1, Rule.RESTART)
        for rule in SIMPLE:
            self.assertEqual(-1, rule.RESTART)

    def test_is_restart(self):
        self.assertIs(True, Rule.is_restart((-1, (0,))))
        self.assertIs(True, Rule.is_restart((-1, (3, 4))))
        self.assertIs(False, Rule.is_restart((0, (0,))))
        self.assertIs(False, Rule.is_restart((1, (0,))))
        self.assertIs(False, FromTop().is_restart((59, (60,))))
        self.assertIs(True, Late.is_restart((-1, (1,))))

    def test_first_state(self):
        for rule in SIMPLE:
            self.assertEqual((0,), rule.first_state())

    def test_only_end(self):
        for rule in SIMPLE:
            for length in LENGTHS:
                for position in range(length + 1):
                    self.assertIs(position == length, rule.is_end((position,), length))

    def test_first_listed_step_executes_the_next_line(self):
        for rule in SIMPLE:
            for length in LENGTHS:
                for position in range(length + 1):
                    steps = rule.steps((position,), length)
                    self.assertIsInstance(steps, list)
                    self.assertEqual(forward(position, length), steps[:1] if position < length else [])
                    self.assertNotIn((position, (position + 1,)), steps[1:])

    def test_further_steps_do_not_depend_on_the_length(self):
        for rule in SIMPLE:
            for length in LENGTHS:
                for position in range(length + 1):
                    self.assertEqual(rule.steps((position,), position),
                                     rule.steps((position,), length)[1 if position < length else 0:])

    def test_a_returned_list_is_new(self):
        for rule in SIMPLE:
            told = rule.steps((3,), 6)
            kept = list(told)
            told.reverse()
            told.append(None)
            self.assertEqual(kept, rule.steps((3,), 6))
            del told[:]
            self.assertEqual(kept, rule.steps((3,), 6))

    def test_each_class_is_a_rule(self):
        for rule in SIMPLE + OTHERS:
            self.assertIsInstance(rule, Rule)

    def test_classes_define_their_methods(self):
        for made in (Rule, FromTop, FromMark, FromPoints, Late, Either):
            self.assertIn("steps", vars(made))
            self.assertIn("__str__", vars(made))
        for name in ("first_state", "is_end", "is_restart", "RESTART"):
            self.assertIn(name, vars(Rule))


class RuleTest(unittest.TestCase):
    def test_once(self):
        for length in LENGTHS:
            for position in range(length + 1):
                self.assertEqual(forward(position, length), Rule().steps((position,), length))

    def test_top(self):
        self.assertEqual([(0, (1,))], FromTop().steps((0,), 2))
        self.assertEqual([(1, (2,)), (-1, (0,))], FromTop().steps((1,), 2))
        self.assertEqual([(-1, (0,))], FromTop().steps((2,), 2))
        self.assertEqual([], FromTop().steps((0,), 0))
        for length in LENGTHS:
            for position in range(length + 1):
                self.assertEqual(forward(position, length) + backward([0] if position else []),
                                 FromTop().steps((position,), length))

    def test_mark(self):
        self.assertEqual([(2, (3,)), (-1, (0,)), (-1, (1,))], FromMark().steps((2,), 3))
        self.assertEqual([(0, (1,))], FromMark().steps((0,), 3))
        self.assertEqual([(-1, (0,)), (-1, (1,)), (-1, (2,))], FromMark().steps((3,), 3))
        for length in LENGTHS:
            for position in range(length + 1):
                self.assertEqual(forward(position, length) + backward(range(position)),
                                 FromMark().steps((position,), length))


class FromPointsTest(Case):
    def test_newest(self):
        for rule in (FromPoints((2, 5)), FromPoints((2, 5), newest=True)):
            told = [[(0, (1,))], [(1, (2,)), (-1, (0,))], [(2, (3,))], [(3, (4,)), (-1, (2,))],
                    [(4, (5,)), (-1, (2,))], [(5, (6,))], [(6, (7,)), (-1, (5,))], [(-1, (5,))]]
            self.assertEqual(told, [rule.steps((position,), 7) for position in range(8)])

    def test_any(self):
        rule = FromPoints((2, 5), newest=False)
        told = [[(0, (1,))], [(1, (2,)), (-1, (0,))], [(2, (3,)), (-1, (0,))], [(3, (4,)), (-1, (0,)), (-1, (2,))],
                [(4, (5,)), (-1, (0,)), (-1, (2,))], [(5, (6,)), (-1, (0,)), (-1, (2,))],
                [(6, (7,)), (-1, (0,)), (-1, (2,)), (-1, (5,))], [(-1, (0,)), (-1, (2,)), (-1, (5,))]]
        self.assertEqual(told, [rule.steps((position,), 7) for position in range(8)])

    def test_at_the_length(self):
        self.assertEqual([], FromPoints((2,)).steps((2,), 2))
        self.assertEqual([(-1, (0,))], FromPoints((2,), newest=False).steps((2,), 2))
        self.assertEqual([(-1, (2,))], FromPoints((2,)).steps((3,), 3))
        self.assertEqual([], FromPoints((1,)).steps((0,), 0))

    def test_points_beyond_the_length(self):
        for newest in (True, False):
            rule = FromPoints((3, 60, 61, 99), newest=newest)
            other = FromPoints((3,), newest=newest)
            for length in (0, 2, 3, 4, 59):
                for position in range(length + 1):
                    self.assertEqual(other.steps((position,), length), rule.steps((position,), length))

    def test_no_points(self):
        for newest in (True, False):
            for length in LENGTHS:
                for position in range(length + 1):
                    self.assertEqual(FromTop().steps((position,), length),
                                     FromPoints((), newest=newest).steps((position,), length))

    def test_all_points(self):
        rule = FromPoints(tuple(range(1, 100)), newest=False)
        newest = FromPoints(tuple(range(1, 100)))
        for position in range(61):
            self.assertEqual(FromMark().steps((position,), 60), rule.steps((position,), 60))
            self.assertEqual(Rule().steps((position,), 60), newest.steps((position,), 60))

    def test_newest_is_passed_by_its_name(self):
        self.assertRaises(TypeError, FromPoints, (1,), True)

    def test_bounds(self):
        for points in ((), (1,), (99,), (1, 99), (1, 2, 3), tuple(range(1, 100))):
            for newest in (True, False):
                self.assertIsInstance(FromPoints(points, newest=newest), FromPoints)

    def test_refused(self):
        for points in ((0,), (100,), (-1,), (0, 1), (1, 100), (2, 1), (1, 3, 2), (1, 1), (1, 2, 2), (10 ** 30,), [], [1],
                       [1, 2], None, 1, "", "1", "12", {}, {1}, range(1, 3), (None,), ("1",), (1, None), (1, "2"),
                       (1, (2,)), ((1,),), (1.0,), (1, 2.0)):
            with self.subTest(repr(points)):
                self.assertFails(InvalidRule, {}, FromPoints, points)
                self.assertFails(InvalidRule, {}, FromPoints, points, newest=False)
                self.assertFails(InvalidRule, {}, FromPoints, points, newest=True)


class LateTest(Case):
    def test_all_lines(self):
        for rule in (Late(), Late(None), Late(lines=None)):
            self.assertEqual([(0, (1,))], rule.steps((0,), 3))
            self.assertEqual([(2, (3,)), (0, (2,)), (1, (2,))], rule.steps((2,), 3))
            self.assertEqual([(0, (3,)), (1, (3,)), (2, (3,))], rule.steps((3,), 3))
            self.assertEqual([], rule.steps((0,), 0))

    def test_no_lines(self):
        for length in LENGTHS:
            for position in range(length + 1):
                self.assertEqual(forward(position, length), Late(()).steps((position,), length))

    def test_some_lines(self):
        rule = Late((0, 2, 70))
        told = [[(0, (1,))], [(1, (2,)), (0, (1,))], [(2, (3,)), (0, (2,))], [(3, (4,)), (0, (3,)), (2, (3,))],
                [(0, (4,)), (2, (4,))]]
        self.assertEqual(told, [rule.steps((position,), 4) for position in range(5)])
        self.assertEqual([(1, (3,))], Late(lines=(1,)).steps((3,), 3))

    def test_lines_are_listed_from_none(self):
        for length in LENGTHS:
            for position in range(length + 1):
                repeated = [(line, (position,)) for line in range(position)]
                self.assertEqual(forward(position, length) + repeated, Late().steps((position,), length))
                self.assertEqual(forward(position, length) + repeated,
                                 Late(tuple(range(100))).steps((position,), length))

    def test_bounds(self):
        for lines in (None, (), (0,), (99,), (0, 99), (0, 1, 2), tuple(range(100))):
            self.assertIsInstance(Late(lines), Late)

    def test_refused(self):
        for lines in ((-1,), (100,), (-1, 0), (0, 100), (1, 0), (0, 2, 1), (0, 0), (3, 4, 4), [], [0], 0, 5, "", "0",
                      "01", {}, {0}, range(2), (None,), ("0",), (0, None), (0, "1"), (0, (1,)), ((0,),), (0.0,),
                      (0, 1.0), (10 ** 30,)):
            with self.subTest(repr(lines)):
                self.assertFails(InvalidRule, {}, Late, lines)


class EitherTest(Case):
    def test_example(self):
        self.assertEqual([(-1, (0,)), (0, (2,))], (FromTop() | Late((0,))).steps((2,), 2))

    def test_order_of_the_rules(self):
        self.assertEqual([(2, (3,)), (-1, (0,)), (0, (2,)), (1, (2,))], Either(FromTop(), Late()).steps((2,), 3))
        self.assertEqual([(2, (3,)), (0, (2,)), (1, (2,)), (-1, (0,))], Either(Late(), FromTop()).steps((2,), 3))
        self.assertEqual([(0, (1,))], Either(FromMark(), FromTop(), Late()).steps((0,), 3))

    def test_rules_that_list_the_same_step(self):
        points = FromPoints((2,))
        self.assertEqual([(3, (4,)), (-1, (0,)), (-1, (1,)), (-1, (2,))], Either(FromTop(), FromMark()).steps((3,), 4))
        self.assertEqual([(3, (4,)), (-1, (2,)), (-1, (0,)), (-1, (1,))], Either(points, FromMark()).steps((3,), 4))
        self.assertEqual([(-1, (2,)), (-1, (0,))], Either(points, FromTop(), points).steps((3,), 3))
        self.assertEqual([(1, (3,)), (0, (3,)), (2, (3,))], Either(Late((1,)), Late()).steps((3,), 3))

    def test_one_rule(self):
        for rule in SIMPLE:
            for length in LENGTHS:
                for position in range(length + 1):
                    told = rule.steps((position,), length)
                    self.assertEqual(told, Either(rule).steps((position,), length))
                    self.assertEqual(told, Either(rule, rule).steps((position,), length))
                    self.assertEqual(told, (rule | rule).steps((position,), length))
                    self.assertEqual(told, Either(Rule(), rule, Late(())).steps((position,), length))

    def test_an_either_in_an_either(self):
        inner = Either(Late((1,)), FromTop())
        self.assertEqual([(3, (4,)), (0, (3,)), (1, (3,)), (-1, (0,)), (2, (3,)), (-1, (1,)), (-1, (2,))],
                         Either(Late((0,)), inner, Late(), FromMark()).steps((3,), 4))
        self.assertEqual([(1, (3,)), (-1, (0,)), (-1, (1,)), (-1, (2,))], Either(inner, FromMark()).steps((3,), 3))

    def test_bar(self):
        rule = FromPoints((2,)) | Late((0,)) | FromTop()
        self.assertIsInstance(rule, Either)
        self.assertEqual([(3, (4,)), (-1, (2,)), (0, (3,)), (-1, (0,))], rule.steps((3,), 4))
        self.assertEqual([(3, (4,)), (-1, (2,)), (0, (3,)), (-1, (0,))],
                         (FromPoints((2,)) | (Late((0,)) | FromTop())).steps((3,), 4))
        self.assertIsInstance(Rule() | Rule(), Either)

    def test_parts_stay_as_they_were(self):
        top = FromTop()
        rule = top | Late()
        rule.steps((2,), 2)
        self.assertEqual([(-1, (0,))], top.steps((2,), 2))
        self.assertEqual("top", str(top))
        self.assertIsNot(rule, rule | rule)
        self.assertEqual("top + late all", str(rule))

    def test_long_chains(self):
        rule = FromTop()
        for _ in range(2000):
            rule = rule | Late((0,))
        self.assertEqual([(-1, (0,)), (0, (2,))], rule.steps((2,), 2))
        self.assertEqual("top" + " + late 0" * 2000, str(rule))

    def test_refused(self):
        self.assertFails(InvalidRule, {}, Either)
        for rule in OTHERS + NO_RULES:
            with self.subTest(repr(rule)):
                self.assertFails(InvalidRule, {}, Either, rule)
                self.assertFails(InvalidRule, {}, Either, rule, FromTop())
                self.assertFails(InvalidRule, {}, Either, FromTop(), rule)
                self.assertFails(InvalidRule, {}, Either, FromTop(), Either(Late()), rule)

    def test_every_simple_rule_is_taken(self):
        for first in SIMPLE:
            for second in SIMPLE:
                self.assertIsInstance(Either(first, second), Either)
                self.assertIsInstance(first | second, Either)

    def test_bar_refused(self):
        for other in OTHERS:
            for rule in SIMPLE + OTHERS:
                self.assertFails(InvalidRule, {}, lambda: rule | other)
                self.assertFails(InvalidRule, {}, lambda: other | rule)


class TextTest(unittest.TestCase):
    def test_texts(self):
        told = [(Rule(), "once"), (FromTop(), "top"), (FromMark(), "mark"), (FromPoints(()), "points"),
                (FromPoints((2, 5)), "points 2 5"), (FromPoints((1, 10, 99), newest=True), "points 1 10 99"),
                (FromPoints((), newest=False), "anypoint"), (FromPoints((2, 5), newest=False), "anypoint 2 5"),
                (Late(), "late all"), (Late(None), "late all"), (Late(()), "late"), (Late((0, 2)), "late 0 2"),
                (Late((0, 99)), "late 0 99"), (Either(FromTop()), "top"), (FromTop() | Late(()), "top + late"),
                (FromPoints((2, 5)) | Late((0,)), "points 2 5 + late 0"),
                (Either(Rule(), FromMark(), FromTop(), FromMark()), "once + mark + top + mark"),
                (Either(Either(FromTop(), Late()), Either(FromMark())), "top + late all + mark")]
        for rule, text in told:
            self.assertEqual(text, str(rule))


if __name__ == "__main__":
    unittest.main()
