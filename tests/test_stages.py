"""Point 45: stages, cutting a script into them, and the fewest stages to a goal."""
import functools
import itertools
import random
import unittest

from helpers import Case, Slow, all_goals, all_logs, lively_line, random_image, random_log, slow_apply, small_cases
from redolots.copylog import copies
from redolots.errors import InvalidGoal, InvalidImage, InvalidLine, NoLog, TooMany
from redolots.images import home
from redolots.lots import Lots, reachable
from redolots.plain import images
from redolots.rules import FromPoints, FromTop
from redolots.stages import fewest_stages, is_stage, stages

SWAPS = copies((2, 0), (0, 1), (1, 2), (2, 0), (0, 1), (1, 2))

# A script with more than 5000 places from the top.
MANY = [("move", target, source, "-" * target + "." + "-" * (7 - target))
        for target, source in ((2, 5), (3, 2), (4, 7), (0, 6), (6, 4), (7, 5), (5, 3), (3, 0))]
MANY_IMAGE = (500, 100, 400, 200, 0, 300, 600, -1)


def exactly(places):
    """A script of at least 5000 places from the top, and its image.

    The skipped lines add as many places as their positions have looks: 129, 15, 3 and 1.
    """
    moves = [(0, 1), (5, 0), (3, 1), (1, 5), (2, 1), (2, 5), (5, 4), (4, 0)]
    lines = [("move", target, source, "-" * target + "." + "-" * (6 - target)) for target, source in moves]
    lines += [("clear", block, -1, "") for block in (0, 4, 6, 3, 1, 5, 2)]
    skipped = [("clear", 0, -1, "9" * 7)]
    script = skipped * 33 + lines[:12] + skipped + lines[12:14] + skipped + lines[14:] + skipped * (places - 4999)
    return script, (0, -1, -1, 300, 400, 500, 600)


def slow_stages(script, image):
    """The cuts, found among all tuples of positions."""
    shown = images(script, image)

    @functools.cache
    def is_piece(start, end):
        return Lots(script[start:end], shown[start], FromTop()).is_safe

    for many in range(len(script) + 1):
        for cuts in itertools.combinations(range(1, len(script)), many):
            ways = (0,) + cuts + (len(script),)
            if all(is_piece(start, end) for start, end in zip(ways, ways[1:])):
                return cuts


def slow_fewest_stages(blocks, most):
    """For each goal the fewest stages, each of so many copies, searched breadth first."""
    @functools.cache
    def flows(pattern):
        # Whether a log is a stage does not depend on the names of the values.
        return {slow_flow(log, blocks) for log in all_logs(blocks, most) if is_safe_log(log, pattern)}

    found = {home(blocks): 0}
    waiting = list(found)
    for image in waiting:
        for flow in flows(tuple(image.index(entry) for entry in image)):
            after = tuple(image[block] for block in flow)
            if after not in found:
                found[after] = found[image] + 1
                waiting.append(after)
    return found


def slow_flow(log, blocks):
    image = home(blocks)
    for line in log:
        image = slow_apply(line, image)
    return image


def is_safe_log(log, image):
    """True if all rounds from the top end alike; copies alone are executed."""
    begun = [image]
    finals = set()
    for held in begun:
        held = list(held)
        for _, target, source, _ in log:
            held[target] = held[source]
            if tuple(held) not in begun:
                begun.append(tuple(held))
        finals.add(tuple(held))
        if len(finals) > 1:
            return False
    return True


class StageTest(Case):
    def test_of_copy_logs(self):
        self.assertIs(True, is_stage(copies((1, 0), (2, 1), (1, 3)), home(4)))
        self.assertIs(False, is_stage(copies((2, 0), (0, 1), (1, 2)), home(3)))
        self.assertIs(True, is_stage(copies((2, 0), (0, 1), (1, 2)), (5, 5, 7)))
        self.assertIs(True, is_stage([], home(3)))

    def test_against_all_complete_runs(self):
        found = {True: 0, False: 0}
        for script, image, _ in small_cases(451, 60):
            safe = len(Slow(script, image, FromTop()).ends()) == 1
            self.assertIs(safe, is_stage(script, image))
            found[safe] += 1
        self.assertGreater(min(found.values()), 100)

    def test_every_single_line(self):
        chance = random.Random(452)
        for _ in range(300):
            blocks = chance.randrange(1, 6)
            self.assertIs(True, is_stage([lively_line(chance, blocks)], random_image(chance, blocks)))

    def test_errors(self):
        for call in (is_stage, stages):
            self.assertFails(InvalidImage, {"block": 1}, call, [3], (0, -2))
            self.assertFails(InvalidLine, {"at": -1}, call, (), (0, 1))
            self.assertFails(InvalidLine, {"at": 1}, call, copies((1, 0), (1, 1)), (0, 1))
            self.assertFails(InvalidLine, {"at": 8}, call, MANY + [3], MANY_IMAGE)

    def test_too_many(self):
        self.assertFails(TooMany, {"limit": 5000}, is_stage, MANY, MANY_IMAGE)
        self.assertEqual(5000, len(reachable(*exactly(5000), FromTop())))
        self.assertIsInstance(is_stage(*exactly(5000)), bool)
        self.assertFails(TooMany, {"limit": 5000}, is_stage, *exactly(5001))


class StagesTest(Case):
    def test_example(self):
        self.assertEqual((1, 2), stages(copies((2, 0), (0, 1), (1, 2)), home(3)))

    def test_short_scripts(self):
        self.assertEqual((), stages([], home(3)))
        self.assertEqual((), stages([("clear", 0, -1, "")], (-1,)))
        self.assertEqual((), stages(copies((0, 1)), home(2)))
        self.assertEqual((), stages(copies((1, 0), (2, 1), (1, 3)), home(4)))

    def test_least_of_several(self):
        # One cut is enough, and each position from 1 to 3 does it.
        script = copies((2, 0), (4, 3), (4, 3), (0, 1))
        for cut in (1, 2, 3):
            self.assertIs(True, is_stage(script[:cut], home(5)))
            self.assertIs(True, is_stage(script[cut:], images(script, home(5))[cut]))
        self.assertEqual((1,), stages(script, home(5)))

    def check(self, script, image):
        cuts = stages(script, image)
        self.assertEqual(slow_stages(script, image), cuts)
        self.assertIs(True, Lots(script, image, FromPoints(cuts)).is_safe)
        return cuts

    def test_against_all_cuts(self):
        found = {}
        for script, image, _ in small_cases(453, 150):
            key = (tuple(script), image)
            if key not in found:
                with self.subTest(key):
                    found[key] = self.check(script, image)
        self.assertGreater(len([cuts for cuts in found.values() if cuts]), 15)

    def test_longer_scripts_against_all_cuts(self):
        chance = random.Random(454)
        found = []
        for at in range(240):
            blocks = chance.randrange(2, 6)
            length = chance.randrange(5, 10)
            script = [lively_line(chance, blocks) for _ in range(length)]
            if at % 4:
                script = random_log(chance, blocks, length)
            image = chance.choice([home(blocks), random_image(chance, blocks),
                                   tuple(chance.choice([-1, 7, 7, 107, 8]) for _ in range(blocks))])
            with self.subTest((script, image)):
                found.append(self.check(script, image))
        self.assertGreater(len(set(found)), 10)
        self.assertGreater(max(len(cuts) for cuts in found), 2)

    def test_a_piece_may_be_a_stage_though_its_beginning_is_not(self):
        script = copies((1, 0), (0, 2), (1, 2))
        self.assertIs(False, is_stage(script[:2], home(3)))
        self.assertIs(True, is_stage(script, home(3)))
        self.assertEqual((), stages(script, home(3)))

    def test_long_scripts(self):
        self.assertEqual((), stages(copies(*[(at % 11 + 1, 0) for at in range(60)]), home(12)))
        cuts = stages(SWAPS * 10, home(3))
        self.assertIs(True, Lots(SWAPS * 10, home(3), FromPoints(cuts)).is_safe)
        self.assertEqual(cuts, tuple(sorted(set(cuts))))
        shown = images(SWAPS * 10, home(3))
        ways = (0,) + cuts + (60,)
        for start, end, beyond in zip(ways, ways[1:], ways[2:]):
            self.assertIs(True, is_stage((SWAPS * 10)[start:end], shown[start]))
            self.assertIs(False, is_stage((SWAPS * 10)[start:beyond], shown[start]))

    def test_too_many(self):
        skipped = [("clear", 0, -1, "9" * 8)]
        self.assertFails(TooMany, {"limit": 5000}, stages, MANY, MANY_IMAGE)
        self.assertFails(TooMany, {"limit": 5000}, stages, skipped * 3 + MANY + skipped, MANY_IMAGE)
        # The lines that make many places stand in the middle, and the first piece leads to their image.
        filled = [("copy", 7, 0, "")]
        script = [("clear", 7, -1, "")] + MANY + filled * 3
        self.assertFails(TooMany, {"limit": 5000}, stages, script, MANY_IMAGE[:7] + (1,))

    def test_at_the_edge(self):
        script, image = exactly(5000)
        cuts = stages(script, image)
        shown = images(script, image)
        ways = (0,) + cuts + (len(script),)
        for start, end in zip(ways, ways[1:]):
            self.assertIs(True, is_stage(script[start:end], shown[start]))
        self.assertFails(TooMany, {"limit": 5000}, stages, *exactly(5001))


class FewestTest(Case):
    def test_home_and_safe_goals(self):
        for goal in all_goals(4):
            if goal == home(len(goal)):
                self.assertEqual(0, fewest_stages(goal))
            elif all(goal[number] == number for number in goal):
                self.assertEqual(1, fewest_stages(goal))

    def test_single_goals(self):
        self.assertEqual([2, 3, 4], [fewest_stages(goal) for goal in ((1, 2, 2), (1, 0, 0), (1, 0, 3, 3))])

    def test_against_a_slow_search(self):
        for blocks, most in ((1, 1), (2, 2), (3, 4), (4, 3)):
            slow = slow_fewest_stages(blocks, most)
            for goal in itertools.product(range(blocks), repeat=blocks):
                with self.subTest(goal):
                    if goal in slow:
                        self.assertEqual(slow[goal], fewest_stages(goal))
                    else:
                        self.assertFails(NoLog, {}, fewest_stages, goal)

    def test_errors(self):
        self.assertFails(InvalidGoal, {"at": -1}, fewest_stages, (0,) * 13)
        self.assertFails(InvalidGoal, {"at": 4}, fewest_stages, (0, 1, 2, 3, 5))
        self.assertFails(TooMany, {"limit": 4}, fewest_stages, home(5))
        self.assertFails(TooMany, {"limit": 4}, fewest_stages, (0,) * 5)
        self.assertFails(TooMany, {"limit": 4}, fewest_stages, (1, 0, 2, 3, 4))
        self.assertFails(TooMany, {"limit": 4}, fewest_stages, home(12))
        self.assertFails(NoLog, {}, fewest_stages, (1, 0))
        self.assertFails(NoLog, {}, fewest_stages, (1, 0, 2, 3))


if __name__ == "__main__":
    unittest.main()
