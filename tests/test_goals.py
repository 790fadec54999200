"""Points 42 and 43: goals, and the safe copy logs that lead to them."""
import itertools
import unittest

from helpers import Case, all_goals, all_logs
from redolots.copylog import copies, pairs
from redolots.errors import InvalidGoal, NoSafeLog
from redolots.goals import check_goal, count_least_logs, count_safe_goals, homeless, least_logs, safe_log
from redolots.images import home
from redolots.lots import Lots
from redolots.machines import Lagging, Workers
from redolots.plain import plain_run
from redolots.rules import FromMark, FromPoints, FromTop, Late, Rule
from redolots.shortest import closed_rings, fewest_copies, least_log
from redolots.stages import fewest_stages


def is_safe_goal(goal):
    return all(goal[number] == number for number in goal)


def yielded(goal):
    return list(least_logs(goal))


class CheckTest(Case):
    CALLS = [check_goal, homeless, safe_log, yielded, count_least_logs, closed_rings, fewest_copies, least_log,
             fewest_stages]

    def told(self, at, goal):
        for call in self.CALLS:
            with self.subTest((call.__name__, goal)):
                self.assertFails(InvalidGoal, {"at": at}, call, goal)

    def test_goals(self):
        for goal in all_goals(4):
            self.assertIsNone(check_goal(goal))
        self.assertIsNone(check_goal((11,) * 12))

    def test_no_tuples_and_wrong_lengths(self):
        for goal in ([0], None, 0, "0", {0: 0}, (), (0,) * 13, (99,) * 13, ("a",) * 13):
            self.told(-1, goal)

    def test_wrong_entries(self):
        self.told(0, (-1,))
        self.told(0, (1,))
        self.told(1, (0, -1, -1))
        self.told(2, (0, 0, 3))
        self.told(11, (0,) * 11 + (12,))
        self.told(1, (0, 10 ** 30, -5))

    def test_entries_of_another_kind(self):
        for entry in (None, "0", 0.0, (0,), [0], b"0"):
            self.told(1, (0, entry, 5))

    def test_a_wrong_goal_is_told_when_it_is_iterated_over(self):
        self.assertIsNotNone(least_logs((5,)))
        self.assertFails(InvalidGoal, {"at": 0}, next, least_logs((5,)))
        self.assertFails(InvalidGoal, {"at": -1}, next, least_logs([]))


class HomelessTest(Case):
    def test_homeless(self):
        self.assertEqual((), homeless((0, 0, 2)))
        self.assertEqual((0, 1), homeless((1, 0)))
        self.assertEqual((1,), homeless((0, 0, 1)))
        self.assertEqual((2, 4), homeless((4, 2, 3, 3, 2)))

    def test_by_the_words(self):
        for goal in all_goals(4):
            self.assertEqual(tuple(number for number in range(len(goal)) if number in goal and goal[number] != number),
                             homeless(goal))


class SafeLogTest(Case):
    def check(self, goal):
        log = safe_log(goal)
        self.assertEqual(goal, plain_run(log, home(len(goal))))
        self.assertEqual(len([block for block, number in enumerate(goal) if number != block]), len(log))
        pairs(log)
        return log

    def test_all_goals(self):
        for goal in all_goals(5):
            if is_safe_goal(goal):
                log = self.check(goal)
                self.assertIs(True, Lots(log, home(len(goal)), Late()).is_safe)
            else:
                self.assertFails(NoSafeLog, {"value": homeless(goal)[0]}, safe_log, goal)

    def test_under_every_rule(self):
        for goal in ((0, 0, 0), (1, 1, 2, 2), (3, 1, 1, 3, 3)):
            log = self.check(goal)
            for rule in (Rule(), FromTop(), FromMark(), FromPoints((1,)), Late(), FromMark() | Late(), Lagging(1),
                         Workers(2), Workers(3)):
                lots = Lots(log, home(len(goal)), rule)
                self.assertEqual((True, goal), (lots.is_safe, lots.final))

    def test_the_home_image(self):
        self.assertEqual([], safe_log((0, 1, 2)))
        self.assertEqual([], safe_log((0,)))

    def test_no_safe_log(self):
        self.assertFails(NoSafeLog, {"value": 0}, safe_log, (1, 0))
        self.assertFails(NoSafeLog, {"value": 1}, safe_log, (0, 2, 1, 3))
        self.assertFails(NoSafeLog, {"value": 3}, safe_log, (0, 3, 2, 2))

    def test_safe_goals_are_those_of_safe_logs(self):
        for log in all_logs(3, 4):
            lots = Lots(log, home(3), FromTop())
            if lots.is_safe:
                self.assertTrue(is_safe_goal(lots.final))

    def test_no_shorter_log(self):
        reached = {}
        for log in all_logs(3, 3):
            reached.setdefault(plain_run(log, home(3)), len(log))
        for goal in all_goals(3):
            if len(goal) == 3 and is_safe_goal(goal):
                self.assertEqual(reached[goal], len(safe_log(goal)))


class LeastLogsTest(Case):
    def test_of_three_blocks(self):
        self.assertEqual([copies((1, 0), (2, 0)), copies((1, 0), (2, 1)), copies((2, 0), (1, 0)),
                          copies((2, 0), (1, 2))], yielded((0, 0, 0)))

    def test_goals_that_are_not_safe(self):
        self.assertEqual([], yielded((1, 0)))
        self.assertEqual([], yielded((0, 2, 2, 1)))

    def test_the_home_image(self):
        self.assertEqual([[]], yielded((0,)))
        self.assertEqual([[]], yielded(home(12)))

    def test_against_all_logs(self):
        logs = {4: {}, 3: {}, 2: {}}
        for blocks, most in ((2, 1), (3, 2), (4, 3)):
            for log in all_logs(blocks, most):
                logs[blocks].setdefault(plain_run(log, home(blocks)), []).append(log)
        for blocks in logs:
            for goal in itertools.product(range(blocks), repeat=blocks):
                with self.subTest(goal):
                    all_of_goal = logs[blocks].get(goal, [])
                    least = [log for log in all_of_goal if len(log) == len(all_of_goal[0])]
                    self.assertEqual(sorted(least, key=pairs) if is_safe_goal(goal) else [], yielded(goal))

    def test_every_least_log_is_safe_under_late_lines(self):
        for goal in ((0, 0, 0, 0), (0, 0, 2, 2), (1, 1, 1, 3)):
            for log in least_logs(goal):
                self.assertEqual((True, goal), (Lots(log, home(4), Late()).is_safe, plain_run(log, home(4))))

    def test_greater_goals(self):
        for goal in ((0, 0, 0, 0, 0), (1, 1, 3, 3, 1, 3), (5, 5, 5, 3, 3, 5)):
            found = yielded(goal)
            told = [pairs(log) for log in found]
            self.assertEqual(sorted(told), told)
            self.assertEqual(len(told), len({tuple(log) for log in told}))
            self.assertEqual(count_least_logs(goal), len(told))
            for log in found:
                self.assertEqual(goal, plain_run(log, home(len(goal))))

    def test_the_first_logs_of_many(self):
        logs = least_logs((0,) * 12)
        self.assertEqual(copies(*[(block, 0) for block in range(1, 12)]), next(logs))
        self.assertEqual(copies(*[(block, 0) for block in range(1, 11)], (11, 1)), next(logs))

    def test_lists_are_new(self):
        found = []
        for log in least_logs((0, 0, 0)):
            found.append(list(log))
            log.clear()
        self.assertEqual(found, yielded((0, 0, 0)))


class CountTest(Case):
    def test_example(self):
        self.assertEqual((4, 10), (count_least_logs((0, 0, 0)), count_safe_goals(3)))

    def test_as_many_as_are_yielded(self):
        for goal in all_goals(4):
            self.assertEqual(len(yielded(goal)), count_least_logs(goal))

    def test_without_listing(self):
        self.assertEqual(39916800 * 39916800, count_least_logs((0,) * 12))
        self.assertEqual(3628800 * 120 * 120, count_least_logs((0, 0, 0, 0, 0, 0) + (6,) * 6))
        self.assertEqual(1, count_least_logs((0, 0, 2, 3, 4, 5, 6, 7, 8, 9, 10, 11)))
        self.assertEqual(6 * 2, count_least_logs((0, 0, 0, 3, 3, 5, 6, 7, 8, 9, 10, 11)))
        self.assertEqual(1, count_least_logs(home(12)))
        self.assertEqual(0, count_least_logs((1, 0) + tuple(range(2, 12))))

    def test_safe_goals(self):
        for blocks in range(1, 6):
            found = [goal for goal in all_goals(blocks) if len(goal) == blocks and is_safe_goal(goal)]
            self.assertEqual(len(found), count_safe_goals(blocks))
        self.assertEqual([1, 3, 10, 41, 196, 1057], [count_safe_goals(blocks) for blocks in range(1, 7)])
        self.assertEqual(157329097, count_safe_goals(12))


if __name__ == "__main__":
    unittest.main()
