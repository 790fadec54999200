"""Point 37: the most that a script can stand."""
import itertools
import random
import unittest

from helpers import Case, random_log, small_cases
from redolots.copylog import copies
from redolots.errors import InvalidImage, InvalidLine, TooMany
from redolots.images import home
from redolots.lots import Lots
from redolots.machines import Lagging
from redolots.rules import FromPoints, Late
from redolots.sweeps import fewest_points, late_set, safe_lag

LOG = copies((1, 0), (2, 1), (1, 3))


def is_safe(script, image, rule):
    return Lots(script, image, rule).is_safe


def scripts(seed, times):
    """Small scripts with their images."""
    chance = random.Random(seed)
    seen = []
    for script, image, _ in small_cases(seed, times):
        if (script, image) not in seen:
            seen.append((script, image))
            yield script, image
    for _ in range(times):
        yield random_log(chance, 4, chance.randrange(3, 8)), home(4)


class LagTest(Case):
    def test_of_a_copy_log(self):
        self.assertEqual(1, safe_lag(LOG, home(4)))
        self.assertEqual(2, safe_lag(copies((1, 0), (2, 0)), home(3)))
        self.assertEqual(0, safe_lag([], home(3)))

    def test_against_all_ages(self):
        found = []
        for script, image in scripts(371, 60):
            with self.subTest((script, image)):
                safe = [age for age in range(len(script) + 1) if is_safe(script, image, Lagging(age))]
                self.assertEqual(list(range(len(safe))), safe)
                self.assertEqual(max(safe), safe_lag(script, image))
                found.append((safe[-1], len(script)))
        between = [lag for lag, length in found if 0 < lag < length]
        self.assertTrue(len(between) > 20 and len(set(between)) > 3)

    def test_long_scripts(self):
        spread = copies(*[(at % 11 + 1, 0) for at in range(60)])
        self.assertEqual(60, safe_lag(spread, home(12)))
        for length in (20, 40):
            # Block 4 takes the wrong number if the second line is executed again behind the last one.
            log = copies((1, 0), (4, 1)) + copies(*[(3, 2)] * length) + copies((1, 2))
            self.assertEqual(length + 1, safe_lag(log, home(5)))

    def test_too_many_for_a_greater_age_than_the_answer(self):
        script = copies((1, 0), (0, 2))
        for block in range(3, 12):
            script += [("clear", block, -1, ""), ("copy", block, 2, "")]
        self.assertIs(True, is_safe(script, home(12), Lagging(1)))
        self.assertIs(False, is_safe(script, home(12), Lagging(2)))
        self.assertFails(TooMany, {"limit": 5000}, Lots, script, home(12), Lagging(20))
        self.assertFails(TooMany, {"limit": 5000}, safe_lag, script, home(12))
        self.assertEqual(1, safe_lag(script[:8], home(12)))


class LateSetTest(Case):
    def test_of_a_copy_log(self):
        self.assertEqual((2,), late_set(LOG, home(4)))
        self.assertEqual((0, 1), late_set(copies((1, 0), (2, 0)), home(3)))
        self.assertEqual((1, 2, 3), late_set(copies((1, 0), (2, 1), (1, 2), (0, 3)), home(4)))
        self.assertEqual((1,), late_set(copies((1, 0), (0, 2)), home(3)))
        self.assertEqual((), late_set([], home(3)))

    def test_by_the_words(self):
        found = []
        for script, image in scripts(372, 60):
            with self.subTest((script, image)):
                collected = ()
                for at in range(len(script)):
                    if is_safe(script, image, Late(collected + (at,))):
                        collected += (at,)
                self.assertEqual(collected, late_set(script, image))
                for at in range(len(script)):
                    if at not in collected:
                        self.assertFalse(is_safe(script, image, Late(tuple(sorted(collected + (at,))))))
                found.append(len(collected))
        self.assertTrue(min(found) == 0 and max(found) > 3)

    def test_too_many(self):
        # The late copies fill blocks again that the clears have made empty.
        filled = [("copy", block, 0, "") for block in range(1, 12)]
        script = filled + [("clear", block, -1, "") for block in range(1, 12)] + filled
        self.assertIs(True, is_safe(script, home(12), Late(tuple(range(10)))))
        self.assertFails(TooMany, {"limit": 5000}, Lots, script, home(12), Late(tuple(range(11))))
        self.assertFails(TooMany, {"limit": 5000}, late_set, script, home(12))


class FewestPointsTest(Case):
    def test_of_copy_logs(self):
        self.assertEqual((), fewest_points(LOG, home(4)))
        self.assertEqual((), fewest_points([], home(4)))
        self.assertEqual((), fewest_points(copies((1, 0)), home(4)))
        self.assertEqual((1,), fewest_points(copies((2, 0), (0, 1)), home(3)))
        self.assertEqual((2,), fewest_points(copies((2, 0), (0, 1), (1, 2)), home(3)))

    def test_against_all_tuples(self):
        found = []
        for script, image in scripts(373, 80):
            with self.subTest((script, image)):
                tuples = [points for many in range(len(script) + 1)
                          for points in itertools.combinations(range(1, len(script)), many)]
                safe = [points for points in tuples if is_safe(script, image, FromPoints(points))]
                self.assertEqual(min(safe, key=lambda points: (len(points), points)), fewest_points(script, image))
                found.append(fewest_points(script, image))
        self.assertTrue(len(set(found)) > 5)

    def test_all_positions_are_enough(self):
        swaps = copies((2, 0), (0, 1), (1, 2), (2, 0), (0, 1), (1, 2), (2, 0), (0, 1))
        points = fewest_points(swaps, home(3))
        self.assertTrue(is_safe(swaps, home(3), FromPoints(points)))
        self.assertTrue(len(points) > 1)
        for many in range(len(points)):
            for fewer in itertools.combinations(range(1, 8), many):
                self.assertFalse(is_safe(swaps, home(3), FromPoints(fewer)))

    def test_too_many_lines(self):
        self.assertEqual((), fewest_points(copies((1, 0)) * 8, home(2)))
        self.assertFails(TooMany, {"limit": 8}, fewest_points, copies((1, 0)) * 9, home(2))
        self.assertFails(TooMany, {"limit": 8}, fewest_points, copies((1, 0)) * 60, home(2))


    def test_too_many_places(self):
        pairs = ((2, 5), (3, 2), (4, 7), (0, 6), (6, 4), (7, 5), (5, 3), (3, 0))
        script = [("move", target, source, "-" * target + "." + "-" * (7 - target)) for target, source in pairs]
        image = (500, 100, 400, 200, 0, 300, 600, -1)
        self.assertFails(TooMany, {"limit": 5000}, Lots, script, image, FromPoints(()))
        self.assertFails(TooMany, {"limit": 5000}, fewest_points, script, image)


class ErrorsTest(Case):
    def test_errors(self):
        for call in (safe_lag, late_set, fewest_points):
            self.assertFails(InvalidImage, {"block": 1}, call, [3] * 61, (0, -2))
            self.assertFails(InvalidImage, {"block": -1}, call, [], [])
            self.assertFails(InvalidLine, {"at": -1}, call, None, (0, 1))
            self.assertFails(InvalidLine, {"at": -1}, call, copies((1, 0)) * 61, (0, 1))
            self.assertFails(InvalidLine, {"at": 9}, call, copies((1, 0)) * 9 + [3], (0, 1))

    def test_nothing_is_changed(self):
        script = list(LOG)
        for call in (safe_lag, late_set, fewest_points):
            call(script, home(4))
            self.assertEqual(LOG, script)


if __name__ == "__main__":
    unittest.main()
