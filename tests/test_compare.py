"""Point 19: accepting sequences and comparing rules."""
import itertools
import random
import unittest

from helpers import Case, random_machine
from redolots.compare import accepts, compare, judge_within
from redolots.errors import TooMany
from redolots.machines import Lagging, Machine, Workers
from redolots.rules import FromMark, FromPoints, FromTop, Late, Rule

RULES = [Rule(), FromTop(), FromMark(), FromPoints((1,)), FromPoints((1, 2), newest=False), Late(), Late((0,)),
         FromTop() | Late((1,)), Lagging(0), Lagging(1), Lagging(9), Workers(1), Workers(2)]


def slow_closure(rule, states, length):
    """Grows the set until restarts add nothing."""
    grown = set(states)
    while True:
        more = {after for state in grown for line, after in rule.steps(state, length) if line == -1}
        if more <= grown:
            return tuple(sorted(grown))
        grown |= more


def slow_behind(rule, states, line, length):
    return slow_closure(rule, [after for state in states for r, after in rule.steps(state, length) if r == line],
                        length)


def has_end(rule, states, length):
    return any(rule.is_end(state, length) for state in states)


def slow_accepts(rule, length, lines):
    """Follows all runs at once, a line or a restart at a time."""
    here = {(0, rule.first_state())}
    seen = set(here)
    while here:
        there = set()
        for done, state in here:
            for line, after in rule.steps(state, length):
                if line == -1:
                    there.add((done, after))
                elif done < len(lines) and line == lines[done]:
                    there.add((done + 1, after))
        here = there - seen
        seen |= here
    return any(done == len(lines) and rule.is_end(state, length) for done, state in seen)


def slow_pairs(first, second, length):
    """All pairs that can be reached, breadth first, each with a sequence of lines that leads to it."""
    pairs = [(slow_closure(first, [first.first_state()], length), slow_closure(second, [second.first_state()], length))]
    ways = [()]
    for at, (left, right) in enumerate(pairs):
        for line in range(length):
            told = slow_behind(first, left, line, length)
            if told:
                pair = (told, slow_behind(second, right, line, length))
                if pair not in pairs:
                    pairs.append(pair)
                    ways.append(ways[at] + (line,))
    return pairs, ways


def rings(tail, *lengths):
    """After the tail, a machine goes round rings of these lengths at once, by line 0."""
    edges = [(at, 0, at + 1) for at in range(tail - 1)]
    count = tail
    for length in lengths:
        edges.append((tail - 1, 0, count))
        edges += [(count + at, 0, count + (at + 1) % length) for at in range(length)]
        count += length
    return count, tuple(edges)


class AcceptsTest(unittest.TestCase):
    def told(self, answer, rule, length, lines):
        with self.subTest((str(rule), length, lines)):
            self.assertIs(answer, accepts(rule, length, lines))

    def test_once(self):
        self.told(True, Rule(), 0, ())
        self.told(True, Rule(), 2, (0, 1))
        for lines in ((), (0,), (1,), (1, 0), (0, 0, 1), (0, 1, 1), (0, 1, 2)):
            self.told(False, Rule(), 2, lines)
        self.told(False, Rule(), 0, (0,))

    def test_restarts(self):
        self.told(True, FromTop(), 2, (0, 0, 1))
        self.told(True, FromTop(), 2, (0, 1, 0, 0, 1))
        self.told(False, FromTop(), 2, (0, 1, 1))
        self.told(True, FromMark(), 2, (0, 1, 1))
        self.told(False, FromMark(), 2, (0, 1, 0))
        self.told(True, Late(), 2, (0, 1, 0))
        self.told(True, Workers(2), 2, (0, 1, 0))
        self.told(True, Lagging(1), 3, (0, 1, 1, 2, 2))
        self.told(False, Lagging(1), 3, (0, 1, 0, 1, 2))

    def test_restarts_one_behind_another(self):
        rule = Machine(4, ((0, -1, 1), (1, -1, 2), (2, 0, 3), (3, -1, 0)), (1,))
        self.told(True, rule, 1, ())
        self.told(True, rule, 1, (0,))
        self.told(True, rule, 1, (0, 0, 0))
        self.told(False, rule, 0, (0,))

    def test_restarts_behind_the_last_line(self):
        self.told(True, Machine(2, ((0, 0, 0), (0, -1, 1)), (1,)), 1, (0, 0))
        self.told(False, Machine(2, ((0, 0, 1), (1, -1, 0)), (1,)), 1, ())

    def test_numbers_that_are_no_lines(self):
        for rule in RULES + [Machine(1, ((0, -1, 0), (0, 1, 0), (0, 99, 0)), (0,))]:
            for lines in ((-1,), (0, 1, -1), (-1, 0, 1), (0, -1, 1), (2,), (0, 1, 2), (0, 1, 99), (-2,), (10 ** 30,),
                          (0, 2, 1), (99,)):
                self.told(False, rule, 2, lines)

    def test_against_all_runs(self):
        for rule in RULES:
            for length in range(4):
                for many in range(5):
                    for lines in itertools.product(range(-1, length + 1), repeat=many):
                        self.assertIs(slow_accepts(rule, length, lines), accepts(rule, length, lines))

    def test_machines_against_all_runs(self):
        chance = random.Random(6)
        for _ in range(150):
            length = chance.randrange(4)
            rule = random_machine(chance, length)
            for _ in range(20):
                lines = tuple(chance.randrange(-1, length + 1) for _ in range(chance.randrange(5)))
                self.assertIs(slow_accepts(rule, length, lines), accepts(rule, length, lines))

    def test_long_sequences(self):
        self.told(True, FromTop(), 60, tuple(range(60)) * 20)
        self.told(False, FromTop(), 60, tuple(range(60)) * 20 + (59,))
        self.told(True, Workers(3), 60, tuple(range(60)) * 3)


class CompareTest(Case):
    def test_example(self):
        self.assertEqual(("apart", (0, 1, 0)), compare(Late(), FromMark(), 2))

    def test_within(self):
        self.assertEqual(("within", [(((0,),), ((0,),)), (((1,),), ((0,), (1,))), (((2,),), ((0,), (2,)))]),
                         compare(Rule(), FromTop(), 2))
        self.assertEqual(("within", [(((0, 0),), ((0,),))]), compare(Workers(2), Rule(), 0))

    def test_apart(self):
        self.assertEqual(("apart", (0, 0, 1)), compare(FromTop(), Rule(), 2))
        self.assertEqual(("apart", (0, 0)), compare(FromTop(), Rule(), 1))
        self.assertEqual(("apart", (0, 1, 1)), compare(FromMark(), FromTop(), 2))
        self.assertEqual(("apart", ()), compare(Machine(1, (), (0,)), Rule(), 1))
        self.assertEqual(("apart", (0, 1)), compare(Rule(), Machine(1, (), (0,)), 2))

    def test_order_of_the_pairs(self):
        kind, pairs = compare(FromMark(), FromMark(), 2)
        low, middle, high = ((0,),), ((0,), (1,)), ((0,), (1,), (2,))
        self.assertEqual(("within", [(low, low), (middle, middle), (high, high)]), (kind, pairs))
        edges = ((0, 2, 1), (0, 0, 2), (1, 1, 3), (2, 3, 4), (2, 1, 1), (0, 0, 5))
        told = [((0,),), ((2,), (5,)), ((1,),), ((4,),), ((3,),)]
        self.assertEqual(("within", [(states, states) for states in told]),
                         compare(Machine(6, edges, (3,)), Machine(6, edges, (3,)), 4))

    def test_closures_are_ascending(self):
        edges = ((0, -1, 3), (3, -1, 1), (1, 0, 2), (3, 0, 0), (2, -1, 0))
        rule = Machine(4, edges, (2,))
        self.assertEqual(("within", [(((0,), (1,), (3,)), ((0,),)), (((0,), (1,), (2,), (3,)), ((0,),))]),
                         compare(rule, Machine(1, ((0, 0, 0),), (0,)), 1))

    def test_least_of_several_shortest_sequences(self):
        nothing = Machine(1, (), ())
        self.assertEqual(("apart", (0,)), compare(Machine(3, ((0, 1, 1), (0, 0, 2)), (1, 2)), nothing, 2))
        self.assertEqual(("apart", (1,)), compare(Machine(3, ((0, 1, 1), (0, 0, 2), (2, 0, 1)), (1,)), nothing, 2))
        self.assertEqual(("apart", (0, 1)),
                         compare(Machine(4, ((0, 1, 1), (1, 0, 3), (0, 0, 2), (2, 1, 3)), (3,)), nothing, 2))
        self.assertEqual(("apart", (0, 2)),
                         compare(Machine(5, ((0, 1, 1), (1, 0, 3), (0, 0, 2), (2, 2, 4), (1, 1, 4)), (3, 4)), nothing, 3))

    def test_an_empty_second_set(self):
        twice = Machine(3, ((0, 0, 1), (1, 0, 2)), ())
        self.assertEqual(("within", [(((0,),), ((0,),)), (((1,),), ()), (((2,),), ())]),
                         compare(twice, Machine(1, (), ()), 1))
        self.assertEqual(("apart", (0, 0)), compare(Machine(3, ((0, 0, 1), (1, 0, 2)), (2,)), Machine(1, (), ()), 1))
        self.assertEqual(("apart", (0, 0)), compare(Machine(3, ((0, 0, 1), (1, 0, 2)), (2,)), Rule(), 1))

    def test_lines_beyond_the_length(self):
        rule = Machine(2, ((0, 1, 1), (0, 99, 1)), (1,))
        self.assertEqual(("within", [(((0,),), ((0,),))]), compare(rule, Machine(1, (), ()), 1))
        self.assertEqual(("apart", (1,)), compare(rule, Machine(1, (), ()), 2))

    def check(self, first, second, length):
        with self.subTest((str(first), str(second), length)):
            pairs, ways = slow_pairs(first, second, length)
            bad = [way for (left, right), way in zip(pairs, ways)
                   if has_end(first, left, length) and not has_end(second, right, length)]
            told = compare(first, second, length)
            if not bad:
                self.assertEqual(("within", pairs), told)
                self.assertIs(True, judge_within(first, second, length, pairs))
            else:
                self.assertEqual(("apart", min(bad, key=lambda way: (len(way), way))), told)
                self.assertTrue(slow_accepts(first, length, told[1]))
                self.assertFalse(slow_accepts(second, length, told[1]))
                self.assertIs(False, judge_within(first, second, length, pairs))

    def test_all_pairs_of_rules(self):
        for first, second in itertools.product(RULES, repeat=2):
            for length in range(4):
                self.check(first, second, length)

    def test_machines(self):
        chance = random.Random(7)
        for _ in range(400):
            length = chance.randrange(4)
            self.check(random_machine(chance, length), random_machine(chance, length), length)

    def test_shortest_by_trying_all(self):
        chance = random.Random(8)
        for _ in range(60):
            first, second = random_machine(chance, 2), random_machine(chance, 2)
            kind, told = compare(first, second, 2)
            for many in range(len(told) if kind == "apart" else 5):
                for lines in itertools.product(range(2), repeat=many):
                    self.assertFalse(accepts(first, 2, lines) and not accepts(second, 2, lines))
            if kind == "apart":
                told_apart = [lines for lines in itertools.product(range(2), repeat=len(told))
                              if accepts(first, 2, lines) and not accepts(second, 2, lines)]
                self.assertEqual(told, min(told_apart))

    def test_as_many_pairs_as_allowed(self):
        first = Machine(*rings(1, 27, 11), ())
        kind, pairs = compare(first, Machine(*rings(30, 10), ()), 1)
        self.assertEqual(("within", 3000, 3000), (kind, len(pairs), len(set(pairs))))
        self.assertIs(True, judge_within(first, Machine(*rings(30, 10), ()), 1, pairs))
        self.assertFails(TooMany, {"limit": 3000}, compare, first, Machine(*rings(31, 10), ()), 1)

    def test_too_many_whatever_the_answer_would_be(self):
        first = Machine(*rings(1, 27, 11), (0,))
        self.assertEqual(("apart", ()), compare(first, Machine(*rings(30, 10), ()), 1))
        self.assertFails(TooMany, {"limit": 3000}, compare, first, Machine(*rings(31, 10), ()), 1)
        first = Machine(*rings(1, 27, 11), tuple(range(1, 28)))
        self.assertEqual(("apart", (0,) * 30), compare(first, Machine(*rings(30, 10), tuple(range(30))), 1))
        self.assertFails(TooMany, {"limit": 3000}, compare, first, Machine(*rings(31, 10), tuple(range(31))), 1)
        self.assertFails(TooMany, {"limit": 3000}, compare, Workers(3), FromMark(), 60)
        self.assertFails(TooMany, {"limit": 3000}, compare, Workers(3), Late(), 60)

    def test_long_scripts(self):
        kind, pairs = compare(FromMark(), Late(), 60)
        self.assertEqual("within", kind)
        self.assertIs(True, judge_within(FromMark(), Late(), 60, pairs))
        self.assertEqual(("apart", (0, 1, 0) + tuple(range(2, 60))), compare(Late(), FromMark(), 60))

    def test_a_returned_list_is_new(self):
        first = compare(Rule(), FromTop(), 2)[1]
        first.clear()
        self.assertEqual(3, len(compare(Rule(), FromTop(), 2)[1]))
        self.assertIsInstance(compare(Rule(), FromTop(), 2), tuple)


class JudgeWithinTest(unittest.TestCase):
    def told(self, answer, first, second, length, pairs):
        kept = list(pairs)
        self.assertIs(answer, judge_within(first, second, length, pairs))
        self.assertEqual(kept, pairs)

    def test_pairs_of_compare(self):
        for first, second in itertools.product(RULES, repeat=2):
            for length in range(4):
                kind, pairs = compare(first, second, length)
                if kind == "within":
                    self.told(True, first, second, length, pairs)

    def test_one_left_out(self):
        for first, second in ((Rule(), FromTop()), (FromMark(), Late()), (Workers(1), Workers(2)), (Lagging(1), Late())):
            pairs = compare(first, second, 3)[1]
            for at in range(len(pairs)):
                self.told(False, first, second, 3, pairs[:at] + pairs[at + 1:])

    def test_no_pairs(self):
        self.told(False, Rule(), Rule(), 0, [])
        self.told(False, Rule(), Rule(), 2, [])

    def test_one_changed(self):
        for first, second in ((Rule(), FromTop()), (FromMark(), Late()), (FromTop(), FromMark())):
            pairs = compare(first, second, 3)[1]
            for at, (left, right) in enumerate(pairs):
                for states in ((), ((0,),), ((1,),), ((2,),), ((3,),), ((0,), (1,)), ((0,), (2,)), ((1,), (3,))):
                    if states != left:
                        self.told(False, first, second, 3, pairs[:at] + [(states, right)] + pairs[at + 1:])
                    if states != right:
                        self.told(False, first, second, 3, pairs[:at] + [(left, states)] + pairs[at + 1:])

    def test_other_order_and_twice(self):
        chance = random.Random(12)
        for first, second in ((Rule(), FromTop()), (FromMark(), Late()), (Workers(1), Workers(2))):
            pairs = compare(first, second, 3)[1]
            self.told(True, first, second, 3, pairs[::-1])
            self.told(True, first, second, 3, pairs + pairs)
            for _ in range(20):
                mixed = pairs + [chance.choice(pairs)]
                chance.shuffle(mixed)
                self.told(True, first, second, 3, mixed)

    def test_more_pairs_than_needed(self):
        pairs = compare(Rule(), FromTop(), 2)[1]
        self.told(True, Rule(), FromTop(), 2, pairs + [((), ())])
        self.told(True, Rule(), FromTop(), 2, [((), ((0,), (1,)))] + pairs)
        self.told(True, Rule(), FromTop(), 2, pairs + [(((2,),), ((2,),))])
        self.told(True, Rule(), FromTop(), 2, pairs + [(((0,),), ((0,), (2,)))])
        self.told(True, Rule(), FromTop(), 2, pairs + [(((1,),), ((1,), (2,)))])

    def test_pairs_that_cannot_be_reached_are_judged(self):
        pairs = compare(Rule(), FromTop(), 2)[1]
        self.told(False, Rule(), FromTop(), 2, pairs + [(((2,),), ((1,),))])
        self.told(False, Rule(), FromTop(), 2, [(((2,),), ())] + pairs)
        self.told(False, Rule(), FromTop(), 2, pairs + [(((0,),), ((1,),))])
        self.told(False, Rule(), FromTop(), 2, pairs + [(((1,),), ())])
        self.told(False, Rule(), FromTop(), 2, pairs + [(((0,), (2,)), ((0,),))])
        self.told(False, Rule(), FromTop(), 2, [(((0,), (1,)), ((0,), (1,), (2,)))] + pairs[:2])

    def test_sets_that_are_not_closed(self):
        top = FromTop()
        low, one, two = ((0,),), ((0,), (1,)), ((0,), (2,))
        pairs = compare(top, top, 2)[1]
        self.assertEqual([(low, low), (one, one), (two, two)], pairs)
        self.told(True, top, top, 2, pairs + [(((1,),), one)])
        self.told(True, top, top, 2, pairs + [(((2,),), ((2,),))])
        self.told(True, top, top, 2, pairs + [(((1,),), ((1,),))])
        self.told(False, top, top, 2, pairs + [(one, ((1,),))])
        self.told(False, top, top, 2, pairs + [(one, low)])
        self.told(False, top, top, 2, [(low, low), (((1,),), ((1,),)), (two, two)])

    def test_ends(self):
        first = Machine(2, ((0, 0, 1),), (1,))
        open_end = Machine(2, ((0, 0, 1),), (0,))
        same = [(((0,),), ((0,),)), (((1,),), ((1,),))]
        self.told(True, first, first, 1, same)
        self.told(False, first, open_end, 1, same)
        self.told(False, open_end, first, 1, same)
        self.told(True, Machine(2, ((0, 0, 1),), ()), first, 1, same)
        self.told(True, Machine(2, ((0, 0, 1),), ()), Machine(2, ((0, 0, 1),), ()), 1, same)
        self.told(True, first, Machine(2, ((0, 0, 1),), (0, 1)), 1, same)

    def test_an_empty_second_set(self):
        first = Machine(2, ((0, 0, 1), (1, 0, 1)), ())
        self.told(True, first, Rule(), 1, [(((0,),), ((0,),)), (((1,),), ((1,),)), (((1,),), ())])
        self.told(False, first, Rule(), 1, [(((0,),), ((0,),)), (((1,),), ((1,),))])

    def test_true_means_within(self):
        chance = random.Random(13)
        for _ in range(200):
            first, second = random_machine(chance, 2), random_machine(chance, 2)
            pairs = slow_pairs(first, second, 2)[0]
            answer = compare(first, second, 2)[0] == "within"
            self.told(answer, first, second, 2, pairs)


if __name__ == "__main__":
    unittest.main()
