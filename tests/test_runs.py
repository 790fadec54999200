"""Points 11 and 12: runs."""
import random
import unittest

from helpers import Case, random_image, random_script, slow_apply
from redolots.errors import InvalidImage, InvalidLine, InvalidRun
from redolots.machines import Lagging, Machine, Workers
from redolots.plain import images
from redolots.rules import FromMark, FromPoints, FromTop, Late, Rule
from redolots.runs import executed, is_complete, is_run, play, trail, undisturbed

LOG = [("copy", 1, 0, ""), ("copy", 2, 1, ""), ("copy", 1, 3, "")]
HOME = (0, 1, 2, 3)
MARKED = [(0, (1,)), (1, (2,)), (2, (3,)), (-1, (1,)), (1, (2,)), (2, (3,))]
LOOP = Machine(3, ((0, 2, 1), (1, 0, 1), (1, -1, 0), (1, 1, 2)), (1,))
RULES = [Rule(), FromTop(), FromMark(), FromPoints((1, 3)), FromPoints((2,), newest=False), Late(), FromTop() | Late((1,)),
         Lagging(1), Workers(2), Workers(3), LOOP]


def random_run(chance, rule, length, most):
    """A run of at most so many steps."""
    run = []
    state = rule.first_state()
    for _ in range(chance.randrange(most + 1)):
        steps = rule.steps(state, length)
        if not steps:
            break
        run.append(chance.choice(steps))
        state = run[-1][1]
    return run


def last_state(rule, run):
    return run[-1][1] if run else rule.first_state()


class UndisturbedTest(unittest.TestCase):
    def test_undisturbed(self):
        self.assertEqual([], undisturbed(0))
        self.assertEqual([(0, (1,))], undisturbed(1))
        self.assertEqual([(0, (1,)), (1, (2,)), (2, (3,))], undisturbed(3))
        self.assertEqual((59, (60,)), undisturbed(60)[59])

    def test_it_is_a_complete_run_of_each_simple_rule(self):
        for length in (0, 1, 5, 60):
            for rule in (Rule(), FromTop(), FromMark(), FromPoints((2,)), Late(), Late(()) | FromTop()):
                self.assertIs(True, is_complete(rule, undisturbed(length), length))
                self.assertEqual(tuple(range(length)), executed(undisturbed(length)))

    def test_its_final_image(self):
        self.assertEqual((0, 3, 0, 3), play(LOG, HOME, Rule(), undisturbed(3)))
        self.assertEqual(images(LOG, HOME), list(trail(LOG, HOME, Rule(), undisturbed(3))))

    def test_the_list_is_new(self):
        undisturbed(2).append(None)
        self.assertEqual([(0, (1,)), (1, (2,))], undisturbed(2))


class IsRunTest(unittest.TestCase):
    def told(self, run_told, complete_told, rule, run, length):
        with self.subTest((str(rule), run, length)):
            self.assertIs(run_told, is_run(rule, run, length))
            self.assertIs(complete_told, is_complete(rule, run, length))

    def test_complete_runs(self):
        self.told(True, True, FromMark(), MARKED, 3)
        self.told(True, True, FromTop(), [(0, (1,)), (-1, (0,)), (0, (1,)), (1, (2,))], 2)
        self.told(True, True, Late(), [(0, (1,)), (0, (1,)), (1, (2,)), (1, (2,)), (0, (2,))], 2)
        self.told(True, True, Lagging(1), [(0, (1, 1)), (1, (2, 2)), (-1, (1, 2)), (1, (2, 2))], 2)
        self.told(True, True, Workers(2), [(0, (0, 1)), (0, (1, 1)), (1, (1, 2))], 2)
        self.told(True, True, LOOP, [(2, (1,)), (0, (1,)), (-1, (0,)), (2, (1,))], 3)

    def test_runs_that_are_not_complete(self):
        for at in range(3):
            self.told(True, False, FromMark(), MARKED[:at], 3)
        self.told(True, True, FromMark(), MARKED[:3], 3)
        self.told(True, False, FromMark(), MARKED[:4], 3)
        self.told(True, False, Rule(), [(0, (1,))], 2)
        self.told(True, False, Lagging(1), [(0, (1, 1)), (1, (2, 2)), (-1, (1, 2))], 2)
        self.told(True, False, Workers(2), [(0, (0, 1)), (0, (1, 1))], 2)
        self.told(True, False, LOOP, [(2, (1,)), (-1, (0,))], 3)
        self.told(True, False, LOOP, [(2, (1,)), (1, (2,))], 3)

    def test_the_empty_run(self):
        for rule in (Rule(), FromTop(), Late(), Lagging(3), Workers(3)):
            self.told(True, True, rule, [], 0)
            self.told(True, False, rule, [], 1)
            self.told(True, False, rule, [], 60)
        self.told(True, False, LOOP, [], 0)
        self.told(True, True, Machine(1, (), (0,)), [], 5)

    def test_runs_that_go_on_behind_an_end(self):
        self.told(True, True, FromTop(), [(0, (1,)), (-1, (0,)), (0, (1,))], 1)
        self.told(True, False, FromTop(), [(0, (1,)), (-1, (0,))], 1)
        self.told(True, True, Workers(2), [(0, (0, 1)), (0, (1, 1))], 1)
        self.told(True, True, Workers(2), [(0, (0, 1)), (0, (1, 1)), (-1, (0, 1))], 1)
        self.told(False, False, Rule(), [(0, (1,)), (1, (2,))], 1)

    def test_steps_that_are_not_possible(self):
        self.told(False, False, Rule(), [(1, (2,))], 3)
        self.told(False, False, Rule(), [(0, (2,))], 3)
        self.told(False, False, Rule(), [(0, (0,))], 3)
        self.told(False, False, Rule(), [(-1, (0,))], 3)
        self.told(False, False, Rule(), [(0, (1,)), (-1, (0,))], 3)
        self.told(False, False, FromTop(), [(0, (1,)), (1, (2,)), (-1, (1,))], 3)
        self.told(False, False, FromTop(), [(-1, (0,))], 0)
        self.told(False, False, Late(), [(0, (1,)), (1, (1,))], 3)
        self.told(False, False, Late(), [(0, (1,)), (1, (2,)), (0, (1,))], 3)
        self.told(False, False, Lagging(1), [(0, (1,))], 3)
        self.told(False, False, Workers(2), [(0, (1, 0))], 3)
        self.told(False, False, Workers(2), [(0, (1,))], 3)
        self.told(False, False, LOOP, [(2, (1,))], 2)
        self.told(False, False, LOOP, [(0, (1,))], 3)

    def test_the_length_counts(self):
        self.told(True, True, FromTop(), [(0, (1,))], 1)
        self.told(True, False, FromTop(), [(0, (1,))], 2)
        self.told(False, False, FromTop(), [(0, (1,))], 0)

    def test_one_wrong_step_anywhere(self):
        for at in range(len(MARKED)):
            for step in ((0, (3,)), (-1, (3,)), (3, (4,)), (-2, (0,)), (0, (1, 1)), None, (0,), ()):
                self.told(False, False, FromMark(), MARKED[:at] + [step] + MARKED[at + 1:], 3)
                self.told(False, False, FromMark(), MARKED[:at] + [step], 3)

    def test_random_runs(self):
        chance = random.Random(4)
        for rule in RULES:
            for _ in range(40):
                length = chance.randrange(5)
                run = random_run(chance, rule, length, 12)
                self.told(True, rule.is_end(last_state(rule, run), length), rule, run, length)


class ExecutedTest(unittest.TestCase):
    def test_executed(self):
        self.assertEqual((), executed([]))
        self.assertEqual((0, 1, 2, 1, 2), executed(MARKED))
        self.assertEqual((), executed([(-1, (0,)), (-1, (0,))]))
        self.assertEqual((0, 0, 7), executed([(-1, (0,)), (0, (1, 1)), (0, (1, 1)), (-1, (2, 2)), (7, (0, 0))]))
        self.assertIsInstance(executed(MARKED), tuple)


class PlayTest(Case):
    def wrong(self, at, rule, run, script=None, image=HOME):
        script = LOG if script is None else script
        with self.subTest((str(rule), run)):
            self.assertFails(InvalidRun, {"at": at}, play, script, image, rule, run)
            shown = []
            with self.assertRaises(InvalidRun) as caught:
                for image in trail(script, image, rule, run):
                    shown.append(image)
            self.assertEqual(at, caught.exception.at)
            told = [HOME]
            for line, _ in run[:at]:
                told.append(told[-1] if line == -1 else slow_apply(script[line], told[-1]))
            self.assertEqual(told, shown)

    def test_complete_run(self):
        self.assertEqual((0, 3, 3, 3), play(LOG, HOME, FromMark(), MARKED))
        self.assertEqual([(0, 1, 2, 3), (0, 0, 2, 3), (0, 0, 0, 3), (0, 3, 0, 3), (0, 3, 0, 3), (0, 3, 3, 3),
                          (0, 3, 3, 3)], list(trail(LOG, HOME, FromMark(), MARKED)))

    def test_run_that_is_not_complete(self):
        self.assertEqual((0, 3, 0, 3), play(LOG, HOME, FromMark(), MARKED[:4]))
        self.assertEqual((0, 0, 2, 3), play(LOG, HOME, FromMark(), MARKED[:1]))

    def test_the_empty_run(self):
        for rule in RULES:
            self.assertEqual(HOME, play(LOG, HOME, rule, []))
            self.assertEqual([HOME], list(trail(LOG, HOME, rule, [])))
            self.assertEqual((4, -1), play([], (4, -1), rule, []))

    def test_run_that_goes_on_behind_an_end(self):
        run = undisturbed(3) + [(0, (3,)), (1, (3,))]
        self.assertEqual((0, 0, 0, 3), play(LOG, HOME, Late(), run))
        self.assertEqual([(0, 0, 2, 3), (0, 0, 2, 3)], list(trail(LOG[:1], HOME, Workers(2),
                                                                  [(0, (0, 1)), (-1, (0, 0))]))[1:])

    def test_skipped_lines_are_steps_too(self):
        script = [("move", 0, 1, ".-"), ("clear", 0, -1, "2-")]
        self.assertEqual([(5, 6), (5, 6), (5, 6)], list(trail(script, (5, 6), Rule(), undisturbed(2))))

    def test_the_same_image_twice_with_moves(self):
        script = [("move", 0, 1, ""), ("move", 1, 2, "")]
        self.assertEqual([(0, 1, 2), (1, -1, 2), (1, 2, -1), (1, 2, -1), (2, -1, -1)],
                         list(trail(script, (0, 1, 2), FromTop(), undisturbed(2) + [(-1, (0,)), (0, (1,))])))

    def test_steps_that_are_not_possible(self):
        for at in range(len(MARKED)):
            for step in ((0, (3,)), (-1, (3,)), (3, (4,)), (60, (0,)), (-2, (0,)), None):
                self.wrong(at, FromMark(), MARKED[:at] + [step] + MARKED[at + 1:])
                self.wrong(at, FromMark(), MARKED[:at] + [step])
        self.wrong(0, Rule(), [(-1, (0,))])
        self.wrong(3, Rule(), undisturbed(4))
        self.wrong(3, FromTop(), undisturbed(3) + [(-1, (1,)), (1, (2,))])

    def test_first_of_two_wrong_steps(self):
        self.wrong(1, FromMark(), [MARKED[0], (2, (3,)), MARKED[0], (5, (6,))])
        self.wrong(0, FromMark(), [None, None])

    def test_lines_beyond_the_script(self):
        rule = Machine(1, ((0, 2, 0), (0, 3, 0)), (0,))
        self.assertEqual((0, 3, 2, 3), play(LOG, HOME, rule, [(2, (0,))] * 3))
        self.wrong(1, rule, [(2, (0,)), (3, (0,))])

    def test_random_runs(self):
        chance = random.Random(5)
        for rule in RULES:
            for _ in range(40):
                blocks = chance.randrange(1, 5)
                image = random_image(chance, blocks)
                script = random_script(chance, blocks, chance.randrange(5))
                run = random_run(chance, rule, len(script), 12)
                told = [image]
                for line, _ in run:
                    told.append(told[-1] if line == -1 else slow_apply(script[line], told[-1]))
                self.assertEqual(told, list(trail(script, image, rule, run)))
                self.assertEqual(told[-1], play(script, image, rule, run))

    def test_order_of_the_errors(self):
        for call in (play, lambda *args: list(trail(*args))):
            self.assertFails(InvalidImage, {"block": -1}, call, None, (), Rule(), [None])
            self.assertFails(InvalidImage, {"block": 1}, call, [None], (0, 1000), Rule(), [None])
            self.assertFails(InvalidLine, {"at": -1}, call, (), HOME, Rule(), [None])
            self.assertFails(InvalidLine, {"at": 1}, call, LOG, (0, 1), Rule(), [None])
            self.assertFails(InvalidLine, {"at": 3}, call, LOG + [None], HOME, Rule(), [])
            self.assertFails(InvalidRun, {"at": 0}, call, LOG, HOME, Rule(), [None])

    def test_trail_is_a_generator(self):
        shown = trail(LOG, HOME, Rule(), undisturbed(3))
        self.assertIs(shown, iter(shown))
        self.assertEqual(HOME, next(shown))
        self.assertEqual((0, 0, 2, 3), next(shown))
        self.assertEqual([(0, 0, 0, 3), (0, 3, 0, 3)], list(shown))
        self.assertRaises(StopIteration, next, shown)

    def test_trail_raises_when_it_is_iterated_over(self):
        self.assertFails(InvalidImage, {"block": -1}, next, trail(None, (), Rule(), None))
        self.assertFails(InvalidLine, {"at": 0}, next, trail([None], HOME, Rule(), None))
        shown = trail(LOG, HOME, Rule(), [(0, (1,)), (0, (1,)), (1, (2,))])
        self.assertEqual([HOME, (0, 0, 2, 3)], [next(shown), next(shown)])
        self.assertFails(InvalidRun, {"at": 1}, next, shown)

    def test_nothing_is_changed(self):
        script = list(LOG)
        run = list(MARKED)
        play(script, HOME, FromMark(), run)
        list(trail(script, HOME, FromMark(), run))
        executed(run)
        is_run(FromMark(), run, 3)
        is_complete(FromMark(), run, 3)
        self.assertEqual((LOG, 6), (script, len(run)))
        self.assertEqual(MARKED, run)


if __name__ == "__main__":
    unittest.main()
