"""Point 44: rings of a goal, and the shortest copy logs that lead to it."""
import itertools
import random
import unittest

from helpers import Case, all_goals
from redolots.copylog import copies, pairs
from redolots.errors import InvalidGoal, NoLog
from redolots.images import home
from redolots.plain import plain_run
from redolots.shortest import closed_rings, fewest_copies, least_log


def slow_rings(goal):
    """The closed rings, found among all tuples of different blocks."""
    found = []
    for length in range(2, len(goal) + 1):
        for ring in itertools.permutations(range(len(goal)), length):
            follows = all(goal[block] == after for block, after in zip(ring, ring[1:] + ring[:1]))
            if follows and ring[0] == min(ring) and all(goal.count(block) == 1 for block in ring):
                found.append(ring)
    return sorted(found)


def distances(blocks):
    """For each image that copy logs reach from the home image the length of a shortest one."""
    found = {home(blocks): 0}
    waiting = list(found)
    for image in waiting:
        for target, source in itertools.permutations(range(blocks), 2):
            after = image[:target] + (image[source],) + image[target + 1:]
            if after not in found:
                found[after] = found[image] + 1
                waiting.append(after)
    return found


def random_goals(seed, times):
    """Goals of many blocks, most of them with rings."""
    chance = random.Random(seed)
    for _ in range(times):
        blocks = chance.randrange(5, 13)
        goal = chance.sample(range(blocks), blocks)
        for _ in range(chance.choice([0, 1, 1, 2, 5])):
            goal[chance.randrange(blocks)] = chance.randrange(blocks)
        yield tuple(goal)


class RingsTest(Case):
    def test_example(self):
        self.assertEqual(([(0, 1)], 4), (closed_rings((1, 0, 3, 3)), fewest_copies((1, 0, 3, 3))))

    def test_rings(self):
        self.assertEqual([], closed_rings((0, 1, 2)))
        self.assertEqual([], closed_rings((0,)))
        self.assertEqual([(0, 2, 1)], closed_rings((2, 0, 1)))
        self.assertEqual([(0, 3), (1, 2)], closed_rings((3, 2, 1, 0)))
        self.assertEqual([(0, 11), (1, 10, 2)], closed_rings((11, 10, 1, 3, 4, 5, 6, 7, 9, 9, 2, 0)))

    def test_a_ring_from_which_another_block_takes_is_not_closed(self):
        self.assertEqual([], closed_rings((1, 0, 1)))
        self.assertEqual([(2, 3)], closed_rings((1, 0, 3, 2, 0)))

    def test_against_a_slow_search(self):
        for goal in all_goals(4):
            self.assertEqual(slow_rings(goal), closed_rings(goal))
        for goal in random_goals(441, 200):
            if len(goal) < 7:
                self.assertEqual(slow_rings(goal), closed_rings(goal))

    def test_errors(self):
        self.assertFails(InvalidGoal, {"at": -1}, closed_rings, [1, 0])
        self.assertFails(InvalidGoal, {"at": 1}, closed_rings, (1, 2))

    def test_lists_are_new(self):
        closed_rings((1, 0)).clear()
        self.assertEqual([(0, 1)], closed_rings((1, 0)))


class CopiesTest(Case):
    def check(self, goal):
        log = least_log(goal)
        pairs(log)
        self.assertEqual(goal, plain_run(log, home(len(goal))))
        self.assertEqual(fewest_copies(goal), len(log))

    def test_against_all_images(self):
        for blocks in (1, 2, 3, 4):
            lengths = distances(blocks)
            for goal in itertools.product(range(blocks), repeat=blocks):
                with self.subTest(goal):
                    if goal in lengths:
                        self.assertEqual(lengths[goal], fewest_copies(goal))
                        self.check(goal)
                    else:
                        self.assertFails(NoLog, {}, fewest_copies, goal)
                        self.assertFails(NoLog, {}, least_log, goal)

    def test_the_home_image(self):
        for blocks in (1, 2, 12):
            self.assertEqual((0, []), (fewest_copies(home(blocks)), least_log(home(blocks))))

    def test_goals_without_a_log(self):
        for goal in ((1, 0), (1, 2, 0), (0, 2, 1, 3), tuple(range(1, 12)) + (0,)):
            self.assertFails(NoLog, {}, fewest_copies, goal)
            self.assertFails(NoLog, {}, least_log, goal)

    def test_single_goals(self):
        self.assertEqual(copies((2, 0), (0, 1), (1, 2)), least_log((1, 0, 0)))
        self.assertEqual(3, fewest_copies((1, 0, 0)))
        self.assertEqual(4, fewest_copies((1, 0, 3, 3)))
        self.assertEqual(1 + 5 * 3, fewest_copies((1, 0, 3, 2, 5, 4, 7, 6, 9, 8, 10, 10)))

    def test_many_blocks(self):
        counted = 0
        for goal in random_goals(442, 1500):
            with self.subTest(goal):
                if goal == home(len(goal)) or len(set(goal)) < len(goal):
                    self.check(goal)
                    counted += len(closed_rings(goal)) > 1
                else:
                    self.assertFails(NoLog, {}, least_log, goal)
        self.assertGreater(counted, 20)
        self.check((1, 0, 3, 2, 5, 4, 7, 6, 9, 8, 10, 10))
        self.check((1, 2, 0, 4, 5, 3, 7, 8, 6, 10, 11, 11))
        self.check((11,) * 12)

    def test_errors(self):
        for call in (fewest_copies, least_log):
            self.assertFails(InvalidGoal, {"at": -1}, call, ())
            self.assertFails(InvalidGoal, {"at": 2}, call, (1, 0, 3))

    def test_lists_are_new(self):
        least_log((1, 0, 0)).clear()
        self.assertEqual(3, len(least_log((1, 0, 0))))


if __name__ == "__main__":
    unittest.main()
