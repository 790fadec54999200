"""Point 55: a run that fits what was seen."""
import itertools
import random
import unittest

from helpers import ENDLESS, Case, Slow, many_places, small_cases
from redolots.copylog import copies
from redolots.errors import InvalidImage, InvalidLine, TooMany
from redolots.hindsight import find_run
from redolots.images import home
from redolots.lots import Lots
from redolots.machines import Machine
from redolots.rules import FromTop, Late, Rule
from redolots.runs import is_complete, play, undisturbed

LOG = copies((1, 0), (0, 2))


def shortest(slow, seen):
    """The least length of a complete run behind which the seen blocks have their entries, or None."""
    return min([steps for (state, held), steps in slow.distances.items()
                if slow.is_end(state) and all(held[block] == entry for block, entry in seen)], default=None)


def ten_blocks(places):
    """A script over ten blocks, its image and a rule with so many places."""
    return copies(*[(at % 9 + 1, 0) for at in range(places - 1)]), home(10), Rule()


class FindTest(Case):
    def check(self, script, image, rule, seen, slow):
        run = find_run(script, image, rule, seen)
        self.assertEqual(shortest(slow, seen), None if run is None else len(run))
        if run is not None:
            self.assertIs(True, is_complete(rule, run, len(script)))
            final = play(script, image, rule, run)
            self.assertEqual([entry for _, entry in seen], [final[block] for block, _ in seen])
        return run

    def test_example(self):
        self.assertEqual([(0, (1,)), (1, (2,)), (0, (2,))], find_run(LOG, home(3), Late(), ((1, 2),)))

    def test_against_a_slow_search(self):
        chance = random.Random(551)
        found = {"None": 0, "short": 0, "long": 0}
        for script, image, rule in small_cases(552, 60):
            slow = Slow(script, image, rule)
            ends = slow.ends() or [image]
            least = shortest(slow, ())
            for many in range(len(image) + 1):
                # Some of what is seen is an end, and some is put together from several ends.
                blocks = sorted(chance.sample(range(len(image)), many))
                end = chance.choice(ends)
                mixed = tuple((block, chance.choice(ends)[block]) for block in blocks)
                for seen in (tuple((block, end[block]) for block in blocks), mixed):
                    with self.subTest((script, image, str(rule), seen)):
                        run = self.check(script, image, rule, seen, slow)
                        found["None" if run is None else "short" if len(run) == least else "long"] += 1
        self.assertGreater(min(found.values()), 200)

    def test_all_that_can_be_seen(self):
        script = copies((1, 0), (2, 1), (1, 3)) + [("clear", 0, -1, ""), ("move", 0, 2, ".---")]
        for rule in (FromTop(), Late()):
            slow = Slow(script, home(4), rule)
            for seen in itertools.product((None, -1, 0, 1, 2, 3), repeat=4):
                told = tuple((block, entry) for block, entry in enumerate(seen) if entry is not None)
                self.check(script, home(4), rule, told, slow)

    def test_nothing_seen(self):
        self.assertEqual(undisturbed(2), find_run(LOG, home(3), Late(), ()))
        self.assertEqual([], find_run([], home(3), Late(), ()))
        self.assertEqual([], find_run(LOG, home(3), Machine(1, ((0, 0, 0),), (0,)), ()))
        self.assertIsNone(find_run(LOG, home(3), ENDLESS, ()))

    def test_empty_blocks(self):
        script = [("clear", 0, -1, ""), ("copy", 0, 1, "")]
        self.assertIsNone(find_run(script, (5, 6), FromTop(), ((0, -1),)))
        self.assertEqual([(0, (1,)), (1, (2,)), (0, (2,))], find_run(script, (5, 6), Late(), ((0, -1),)))
        self.assertEqual([(0, (1,)), (1, (2,)), (0, (2,))], find_run(script, (5, 6), Late(), ((0, -1), (1, 6))))
        self.assertIsNone(find_run(script, (5, 6), Late(), ((0, -1), (1, -1))))
        self.assertEqual([(0, (1,))], find_run(script[:1], (5, 6), FromTop(), ((0, -1),)))

    def test_values_that_do_not_occur(self):
        for entry in (7, 100, 999):
            self.assertIsNone(find_run(LOG, home(3), Late(), ((0, entry),)))
            self.assertIsNone(find_run(LOG, home(3), Late(), ((0, 2), (1, entry))))

    def test_entries_that_occur_one_by_one_but_not_together(self):
        script = copies((1, 0), (2, 0), (0, 3))
        rule = Late()
        ends = Slow(script, home(4), rule).ends()
        self.assertEqual([(3, 0, 0, 3), (3, 0, 3, 3), (3, 3, 0, 3), (3, 3, 3, 3)], ends)
        log = [("copy", 1, 0, ""), ("copy", 2, 0, ""), ("copy", 0, 3, "")]
        self.assertIsNone(find_run(log, home(4), FromTop(), ((1, 0), (2, 3))))
        self.assertIsNotNone(find_run(log, home(4), FromTop(), ((1, 3),)))
        self.assertIsNotNone(find_run(log, home(4), FromTop(), ((2, 0),)))

    def test_equal_values(self):
        self.assertEqual(undisturbed(2), find_run(LOG, (5, 6, 5), Late(), ((0, 5), (1, 5))))

    def test_a_place_with_the_value_on_another_way(self):
        slow = Slow(LOG, home(3), Late())
        for seen in (((0, 2), (1, 0), (2, 2)), ((0, 2), (1, 2), (2, 2))):
            self.check(LOG, home(3), Late(), seen, slow)


class BoundsTest(Case):
    def test_too_many_places(self):
        script, image, rule = many_places(5001)
        self.assertFails(TooMany, {"limit": 5000}, find_run, script, image, rule, ())
        self.assertFails(TooMany, {"limit": 5000}, find_run, script, image, rule, ((0, 7), (1, 7), (2, 7)))

    def test_the_edge_of_the_product(self):
        seen = ((1, 0), (2, 0), (3, 0), (4, 0))
        script, image, rule = ten_blocks(20)
        self.assertEqual(20, len(Lots(script, image, rule)))
        self.assertEqual(undisturbed(19), find_run(script, image, rule, seen))
        self.assertFails(TooMany, {"limit": 200000}, find_run, *ten_blocks(21), seen)
        self.assertEqual(undisturbed(20), find_run(*ten_blocks(21), seen[:3]))
        self.assertFails(TooMany, {"limit": 200000}, find_run, script, image, rule, seen + ((5, 0),))

    def test_a_pair_with_empty_counts_too(self):
        seen = ((1, -1), (2, -1), (3, -1), (4, 0))
        self.assertIsNone(find_run(*ten_blocks(20), seen))
        self.assertFails(TooMany, {"limit": 200000}, find_run, *ten_blocks(21), seen)
        self.assertFails(TooMany, {"limit": 200000}, find_run, *ten_blocks(21), tuple((at, -1) for at in range(4)))

    def test_whatever_the_answer_would_be(self):
        self.assertFails(TooMany, {"limit": 200000}, find_run, *ten_blocks(21), tuple((at, 500) for at in range(4)))
        self.assertFails(TooMany, {"limit": 200000}, find_run, [], home(12), Rule(), tuple((at, at) for at in range(5)))

    def test_exactly_200000(self):
        script, image, rule = many_places(5000)
        self.assertIsNone(find_run(script, image, rule, ((0, 7),)))
        self.assertFails(TooMany, {"limit": 200000}, find_run, script, image, rule, ((0, 7), (1, 7)))

    def test_one_block(self):
        self.assertEqual([(0, (1,))], find_run([("clear", 0, -1, "")], (5,), Rule(), ((0, -1),)))

    def test_errors_come_in_order(self):
        script, image, rule = many_places(5001)
        self.assertFails(InvalidImage, {"block": 1}, find_run, [3], (0, -2), Rule(), ())
        self.assertFails(InvalidLine, {"at": 1}, find_run, LOG[:1] + [3], home(3), Rule(), ((0, 5),))
        self.assertFails(InvalidLine, {"at": 14}, find_run, script + [3], image, rule, ())

    def test_nothing_is_changed(self):
        script = list(LOG)
        find_run(script, home(3), Late(), ((1, 2),)).clear()
        self.assertEqual((LOG, 3), (script, len(find_run(script, home(3), Late(), ((1, 2),)))))


if __name__ == "__main__":
    unittest.main()
