"""Points 14 to 18: lagging marks, workers, machines, and reading rules."""
import itertools
import unittest

from helpers import Case
from redolots.errors import InvalidRule, InvalidText
from redolots.machines import Lagging, Machine, Workers, read_rule
from redolots.rules import Either, FromMark, FromPoints, FromTop, Late, Rule


def replaced(state, position, goal):
    """The state with one of the positions replaced."""
    after = list(state)
    after.remove(position)
    return tuple(sorted(after + [goal]))


class LaggingTest(Case):
    def test_first_state(self):
        for age in (0, 1, 99):
            self.assertEqual((0, 0), Lagging(age).first_state())

    def test_steps(self):
        rule = Lagging(2)
        self.assertEqual([(0, (1, 1))], rule.steps((0, 0), 5))
        self.assertEqual([(1, (2, 2)), (-1, (0, 1))], rule.steps((1, 1), 5))
        self.assertEqual([(2, (3, 3)), (-1, (0, 2)), (-1, (1, 2))], rule.steps((2, 2), 5))
        self.assertEqual([(3, (4, 4)), (-1, (1, 3)), (-1, (2, 3))], rule.steps((3, 3), 5))
        self.assertEqual([(-1, (3, 5)), (-1, (4, 5))], rule.steps((5, 5), 5))

    def test_steps_below_the_highest_position(self):
        rule = Lagging(2)
        self.assertEqual([(0, (1, 2))], rule.steps((0, 2), 5))
        self.assertEqual([(2, (3, 4))], rule.steps((2, 4), 5))
        self.assertEqual([(3, (4, 4)), (-1, (2, 4))], rule.steps((3, 4), 5))
        self.assertEqual([(1, (2, 5))], rule.steps((1, 5), 5))
        self.assertEqual([(4, (5, 5)), (-1, (3, 5))], rule.steps((4, 5), 5))

    def test_age_0(self):
        for length in (0, 1, 4, 60):
            for position in range(length + 1):
                told = [(position, (position + 1, position + 1))] if position < length else []
                self.assertEqual(told, Lagging(0).steps((position, position), length))

    def test_age_above_the_length(self):
        for age in (4, 5, 60, 99):
            self.assertEqual([(3, (4, 4)), (-1, (0, 4)), (-1, (1, 4)), (-1, (2, 4))], Lagging(age).steps((3, 4), 4))
            self.assertEqual([(-1, (0, 4)), (-1, (1, 4)), (-1, (2, 4)), (-1, (3, 4))], Lagging(age).steps((4, 4), 4))
        self.assertEqual([(-1, (1, 4)), (-1, (2, 4)), (-1, (3, 4))], Lagging(3).steps((4, 4), 4))

    def test_all_steps(self):
        for age, length in itertools.product((0, 1, 3, 99), (0, 1, 2, 6)):
            for highest in range(length + 1):
                for position in range(highest + 1):
                    told = []
                    if position < length:
                        told.append((position, (position + 1, max(highest, position + 1))))
                    told += [(-1, (j, highest)) for j in range(position) if j >= highest - age]
                    self.assertEqual(told, Lagging(age).steps((position, highest), length))

    def test_ends(self):
        for length in (0, 1, 3, 60):
            for highest in range(length + 1):
                for position in range(highest + 1):
                    self.assertIs(position == length, Lagging(1).is_end((position, highest), length))

    def test_bounds(self):
        for age in (0, 1, 60, 98, 99):
            self.assertEqual(f"lag {age}", str(Lagging(age)))
        for age in (-1, 100, -100, 10 ** 30, None, "3", "", (3,), [3], 3.0):
            with self.subTest(repr(age)):
                self.assertFails(InvalidRule, {}, Lagging, age)


class WorkersTest(Case):
    def test_example(self):
        self.assertEqual([(0, (1, 1)), (1, (0, 2)), (-1, (0, 0))], Workers(2).steps((0, 1), 2))

    def test_first_state(self):
        self.assertEqual([(0,), (0, 0), (0, 0, 0)], [Workers(count).first_state() for count in (1, 2, 3)])

    def test_one_worker(self):
        self.assertEqual([(0, (1,))], Workers(1).steps((0,), 2))
        self.assertEqual([(1, (2,)), (-1, (0,))], Workers(1).steps((1,), 2))
        self.assertEqual([(-1, (0,))], Workers(1).steps((2,), 2))
        self.assertEqual([], Workers(1).steps((0,), 0))

    def test_equal_positions(self):
        self.assertEqual([(0, (0, 1))], Workers(2).steps((0, 0), 2))
        self.assertEqual([(1, (1, 2)), (-1, (0, 1))], Workers(2).steps((1, 1), 2))
        self.assertEqual([(-1, (0, 2))], Workers(2).steps((2, 2), 2))
        self.assertEqual([(0, (0, 0, 1))], Workers(3).steps((0, 0, 0), 1))
        self.assertEqual([(0, (1, 1, 1)), (-1, (0, 0, 1))], Workers(3).steps((0, 1, 1), 1))
        self.assertEqual([(1, (1, 2, 2)), (2, (1, 1, 3)), (-1, (0, 1, 2)), (-1, (0, 1, 1))],
                         Workers(3).steps((1, 1, 2), 4))

    def test_positions_are_put_into_order(self):
        self.assertEqual([(1, (2, 2, 3)), (2, (1, 3, 3)), (3, (1, 2, 4)), (-1, (0, 2, 3)), (-1, (0, 1, 3)),
                          (-1, (0, 1, 2))], Workers(3).steps((1, 2, 3), 5))
        self.assertEqual([(3, (4, 5)), (-1, (0, 5)), (-1, (0, 3))], Workers(2).steps((3, 5), 5))

    def test_steps_are_ascending_for_distant_positions(self):
        for state in ((1, 8, 59), (5, 16, 33), (8, 9, 16), (16, 32, 48), (7, 31, 32), (0, 24, 40)):
            held = [position for position in state if position > 0]
            steps = Workers(3).steps(state, 60)
            self.assertEqual(list(state) + [-1] * len(held), [line for line, _ in steps])
            self.assertEqual([replaced(state, position, 0) for position in held],
                             [after for line, after in steps if line == -1])

    def test_all_steps(self):
        for count, length in itertools.product((1, 2, 3), (0, 1, 2, 4)):
            for state in itertools.combinations_with_replacement(range(length + 1), count):
                told = [(position, replaced(state, position, position + 1)) for position in range(length)
                        if position in state]
                told += [(-1, replaced(state, position, 0)) for position in range(1, length + 1) if position in state]
                self.assertEqual(told, Workers(count).steps(state, length))

    def test_ends(self):
        for length in (0, 1, 2, 5):
            for state in itertools.combinations_with_replacement(range(length + 1), 2):
                self.assertIs(state[1] == length, Workers(2).is_end(state, length))
        self.assertIs(True, Workers(3).is_end((0, 0, 60), 60))
        self.assertIs(False, Workers(3).is_end((0, 0, 59), 60))
        self.assertIs(True, Workers(1).is_end((0,), 0))

    def test_bounds(self):
        for count in (1, 2, 3):
            self.assertEqual(f"workers {count}", str(Workers(count)))
        for count in (0, 4, -1, 5, 10 ** 30, None, "1", (1,), [1], 2.0):
            with self.subTest(repr(count)):
                self.assertFails(InvalidRule, {}, Workers, count)


class MachineTest(Case):
    def test_steps(self):
        rule = Machine(4, ((0, 1, 2), (2, 0, 1), (0, -1, 3), (0, 0, 0), (0, 1, 1), (3, 5, 3)), (1, 3))
        self.assertEqual((0,), rule.first_state())
        self.assertEqual([(1, (2,)), (-1, (3,)), (0, (0,)), (1, (1,))], rule.steps((0,), 6))
        self.assertEqual([], rule.steps((1,), 6))
        self.assertEqual([(0, (1,))], rule.steps((2,), 6))

    def test_lines_at_and_beyond_the_length(self):
        rule = Machine(2, ((0, 99, 1), (0, -1, 1), (0, 1, 1), (0, 0, 0), (0, 2, 1)), ())
        self.assertEqual([(-1, (1,))], rule.steps((0,), 0))
        self.assertEqual([(-1, (1,)), (0, (0,))], rule.steps((0,), 1))
        self.assertEqual([(-1, (1,)), (1, (1,)), (0, (0,))], rule.steps((0,), 2))
        self.assertEqual([(-1, (1,)), (1, (1,)), (0, (0,)), (2, (1,))], rule.steps((0,), 60))

    def test_a_triple_that_occurs_twice(self):
        rule = Machine(2, ((0, 0, 1), (0, -1, 1), (0, 0, 1)), (1,))
        self.assertEqual([(0, (1,)), (-1, (1,)), (0, (1,))], rule.steps((0,), 1))

    def test_a_state_that_no_run_reaches(self):
        rule = Machine(50, ((49, 3, 0), (49, -1, 49)), (49,))
        self.assertEqual([(3, (0,)), (-1, (49,))], rule.steps((49,), 60))
        self.assertEqual([], rule.steps((48,), 60))
        self.assertIs(True, rule.is_end((49,), 3))
        self.assertIs(False, rule.is_end((48,), 3))

    def test_ends_do_not_depend_on_the_length(self):
        rule = Machine(4, (), (3, 1, 3))
        for length in (0, 1, 2, 3, 60):
            self.assertEqual([False, True, False, True], [rule.is_end((state,), length) for state in range(4)])
        self.assertEqual([False, False], [Machine(2, (), ()).is_end((state,), 1) for state in range(2)])

    def test_a_returned_list_is_new(self):
        rule = Machine(1, ((0, 0, 0), (0, 1, 0)), (0,))
        told = rule.steps((0,), 2)
        told.append(None)
        told[0] = None
        self.assertEqual([(0, (0,)), (1, (0,))], rule.steps((0,), 2))
        for other in (Lagging(3), Workers(2)):
            state = (1, 2)
            kept = other.steps(state, 3)
            other.steps(state, 3).clear()
            self.assertEqual(kept, other.steps(state, 3))

    def test_bounds(self):
        for count, edges, ends in ((1, (), ()), (50, (), ()), (50, ((49, 99, 49), (0, -1, 0)), (0, 49)),
                                   (1, ((0, -1, 0), (0, 99, 0)), (0, 0))):
            self.assertEqual("machine", str(Machine(count, edges, ends)))

    def test_refused(self):
        good = ((0, 0, 1),)
        for count in (0, 51, -1, 10 ** 30, None, "2", (2,), 2.0):
            self.assertFails(InvalidRule, {}, Machine, count, (), ())
        for edge in ((2, 0, 0), (-1, 0, 0), (0, 0, 2), (0, 0, -1), (0, -2, 0), (0, 100, 0), (None, 0, 0), (0, None, 0),
                     (0, 0, None), ("0", 0, 0), (0, "0", 0), (0, 0, "0"), (0.0, 0, 0), (0, 0.0, 0), (0, 0, 0.0),
                     ((0,), 0, 0), (0, 0, (0,))):
            with self.subTest(edge):
                self.assertFails(InvalidRule, {}, Machine, 2, (edge,), (0,))
                self.assertFails(InvalidRule, {}, Machine, 2, good + (edge,), (0,))
                self.assertFails(InvalidRule, {}, Machine, 2, (edge,) + good, (0,))
        for end in (2, -1, 50, None, "0", (0,), 0.0):
            with self.subTest(end):
                self.assertFails(InvalidRule, {}, Machine, 2, good, (end,))
                self.assertFails(InvalidRule, {}, Machine, 2, good, (0, end))
                self.assertFails(InvalidRule, {}, Machine, 2, good, (end, 1))


class ClassesTest(unittest.TestCase):
    def test_classes_define_their_methods(self):
        for made in (Lagging, Workers, Machine):
            self.assertTrue(issubclass(made, Rule))
            for name in ("first_state", "steps", "is_end", "__str__"):
                self.assertIn(name, vars(made))


class ReadRuleTest(Case):
    def wrong(self, text):
        with self.subTest(text[:80]):
            self.assertFails(InvalidText, {"line": 1}, read_rule, text)

    def test_example(self):
        self.assertEqual("points 2 5 + late 0", str(read_rule("points 2 5 + late 0")))

    def test_each_class(self):
        told = [("once", Rule), ("top", FromTop), ("mark", FromMark), ("points", FromPoints), ("points 1", FromPoints),
                ("points 9 10 99", FromPoints), ("anypoint", FromPoints), ("anypoint 2 5", FromPoints),
                ("late all", Late), ("late", Late), ("late 0", Late), ("late 0 9 10 99", Late), ("lag 0", Lagging),
                ("lag 10", Lagging), ("lag 99", Lagging), ("workers 1", Workers), ("workers 3", Workers),
                ("top + mark", Either), ("once + once", Either), ("late all + late + points 7 + anypoint", Either)]
        for text, made in told:
            rule = read_rule(text)
            self.assertIs(made, rule.__class__)
            self.assertEqual(text, str(rule))

    def test_steps_of_the_rules_read(self):
        rules = [Rule(), FromTop(), FromMark(), FromPoints(()), FromPoints((2, 3)), FromPoints((2, 3), newest=False),
                 FromPoints((), newest=False), Late(), Late(()), Late((0, 2)), Lagging(0), Lagging(2), Workers(1),
                 Workers(2), Workers(3), FromTop() | Late((1,)), Either(Late((2,)), FromPoints((3,)), Late(), Rule())]
        for rule in rules:
            other = read_rule(str(rule))
            self.assertIs(rule.__class__, other.__class__)
            self.assertEqual(rule.first_state(), other.first_state())
            waiting = [rule.first_state()]
            seen = set(waiting)
            while waiting:
                state = waiting.pop()
                self.assertEqual(rule.steps(state, 4), other.steps(state, 4))
                self.assertEqual(rule.is_end(state, 4), other.is_end(state, 4))
                found = {after for _, after in rule.steps(state, 4)} - seen
                seen |= found
                waiting += found

    def test_an_either_of_all_the_rules_in_order(self):
        self.assertEqual([(3, (4,)), (1, (3,)), (-1, (2,)), (-1, (0,)), (0, (3,)), (2, (3,))],
                         read_rule("late 1 + points 2 + top + late all").steps((3,), 4))

    def test_machine(self):
        self.wrong("machine")
        self.wrong("top + machine")
        self.wrong("machine 1")

    def test_words(self):
        for text in ("", " ", "onc", "onces", "Once", "TOP", "top1", "marks", "point 1", "point", "anypoints 1",
                     "any 1", "late ALL", "late any", "lateall", "lag", "workers", "lagging 1", "worker 1", "all",
                     "either", "1", "lag x", "workers x", "points x", "late x", "top mark", "top once", "late all 1",
                     "late 1 all", "once 1", "top 0", "mark 1", "points all", "lag all", "lag 1 2", "workers 1 2",
                     "workers 2 2", "None", "late None", "late ()", "points (2, 5)", "points 2, 5", "late all all"):
            self.wrong(text)
            self.wrong("top + " + text)
            self.wrong(text + " + top")

    def test_numbers(self):
        for number in ("00", "01", "007", "+1", "-1", "1.0", "1_0", "x", "1x", "0x1", "1e0", "100", "999", "1" * 5000,
                       "0" * 5000, "9" * 100000):
            for word in ("points", "anypoint", "late", "lag", "workers"):
                self.wrong(f"{word} {number}")
            for word in ("points 1", "anypoint 1", "late 1"):
                self.wrong(f"{word} {number}")

    def test_spaces(self):
        for text in ("top ", " top", "points  2", "points 2  5", "points 2 ", "points ", " points 2", "late  0", "late ",
                     "late  all", "late all ", " late all", "lag  1", "lag 1 ", "lag ", "workers  1", "workers 1 ",
                     "once ", " once", "mark ", "top\n", "\ntop", "points\t2", "lag 1\n", "late\tall", "top\r"):
            self.wrong(text)

    def test_plus(self):
        for text in ("+", " + ", "top + ", " + top", "top+mark", "top +mark", "top+ mark", "top +  mark", "top  + mark",
                     "top + + mark", "top +  + mark", "top ++ mark", "+ top", "top +", "top + mark + ", " + top + mark",
                     "top | mark", "top\n+ mark", "top , mark"):
            self.wrong(text)

    def test_rules_that_are_invalid(self):
        for text in ("points 0", "points 2 1", "points 2 2", "points 1 3 2", "anypoint 0", "anypoint 5 4",
                     "anypoint 1 1", "late 1 0", "late 0 0", "late 3 3", "lag 100", "workers 0", "workers 4",
                     "workers 10", "lag 1 + top", "top + lag 1", "workers 1 + top", "top + workers 2", "lag 0 + lag 0",
                     "top + points 0"):
            self.wrong(text)

    def test_long_texts(self):
        self.assertEqual("top" + " + mark" * 5000, str(read_rule("top" + " + mark" * 5000)))
        self.wrong("top" + " + mark" * 5000 + " + lag 1")
        self.wrong("points" + " 1" * 100000)
        self.wrong("x" * 1000000)
        self.wrong(" " * 100000)


if __name__ == "__main__":
    unittest.main()
