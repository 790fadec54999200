"""Points 49 to 52: obstacles, plans, lists of plans, and counting goals."""
import itertools
import random
import unittest

from helpers import Case
from redolots.errors import InvalidImage, NoPlan, NotRenaming, Undecided
from redolots.images import home, look
from redolots.lots import Lots
from redolots.machines import Lagging, Workers
from redolots.movement import check_careful, moving, rings
from redolots.plain import images, plain_run
from redolots.plans import count_goals, fewest_moves, judge_obstacle, obstacle, plan, plans
from redolots.rounds import is_staircase
from redolots.rules import FromMark, FromPoints, FromTop, Late, Rule

RULES = [Rule(), FromTop(), FromMark(), FromPoints(()), FromPoints((1, 3)), FromPoints((2,), newest=False), Late(),
         Late((0, 2)), FromTop() | Late((1,)), FromMark() | Late(), Lagging(0), Lagging(1), Lagging(9), Workers(1),
         Workers(2), Workers(3)]


def colored_pairs(most, kinds=3):
    """All rename pairs of up to so many blocks, with all ways to give the values kinds."""
    for blocks in range(1, most + 1):
        for full in range(blocks + 1):
            for colors in itertools.product(range(min(full, kinds)), repeat=full):
                before = tuple(100 * color + at for at, color in enumerate(colors)) + (-1,) * (blocks - full)
                for after in sorted(set(itertools.permutations(before))):
                    yield before, after


def random_pair(chance):
    """A rename pair with many blocks and few kinds."""
    blocks = chance.randrange(3, 13)
    entries = [chance.choice((0, 0, 0, 100, 200)) + at for at in range(blocks)]
    for block in range(chance.choice([0, 1, 1, 2, 2, 2, 3, 5])):
        entries[block % blocks] = -1
    before = chance.sample(entries, blocks)
    after = list(before)
    # Only some of the blocks change, so that there are rings and equal looks.
    places = chance.sample(range(blocks), chance.randrange(blocks + 1))
    for block, entry in zip(places, chance.sample([before[block] for block in places], len(places))):
        after[block] = entry
    return tuple(before), tuple(after)


def slow_obstacle(before, after):
    """The word of point 49, in its order: none, full, alike, rings, undecided."""
    turned = rings(before, after)
    kinds = {entry // 100 for entry in before if entry != -1}
    if before == after:
        return "none"
    if -1 not in before:
        return "full"
    if [entry if entry == -1 else entry // 100 for entry in before] == \
            [entry if entry == -1 else entry // 100 for entry in after]:
        return "alike"
    if before.count(-1) == 1 and turned:
        return "rings" if len(kinds) == 1 else "undecided"
    return "none"


def distances(before):
    """For each image that moves lead to the least number of moves that fire."""
    found = {before: 0}
    waiting = list(found)
    for image in waiting:
        for target, source in itertools.permutations(range(len(image)), 2):
            if image[source] != -1:
                after = list(image)
                after[target], after[source] = image[source], -1
                if tuple(after) not in found:
                    found[tuple(after)] = found[image] + 1
                    waiting.append(tuple(after))
    return found


class ObstacleTest(Case):
    def test_the_cases(self):
        self.assertIsNone(obstacle((5, 7), (5, 7)))
        self.assertIsNone(obstacle((-1, -1), (-1, -1)))
        self.assertEqual(("full",), obstacle((5, 107), (107, 5)))
        self.assertEqual(("full",), obstacle((5, 7), (7, 5)))
        self.assertEqual(("alike",), obstacle((5, 7, -1, -1), (7, 5, -1, -1)))
        self.assertEqual(("alike",), obstacle((5, 7, -1), (7, 5, -1)))
        self.assertEqual(("rings", ((0, 1),)), obstacle((5, 7, 8, -1), (7, 5, -1, 8)))
        self.assertEqual(("rings", ((0, 1), (2, 4))), obstacle((1, 2, 3, -1, 4, 5), (2, 1, 4, 5, 3, -1)))
        self.assertIsNone(obstacle((5, 7, -1), (-1, 5, 7)))
        self.assertIsNone(obstacle((5, 7, 8, -1, -1), (7, 5, -1, -1, 8)))
        self.assertIsNone(obstacle((5, 107, -1, -1), (107, 5, -1, -1)))

    def test_undecided(self):
        self.assertFails(Undecided, {"rings": ((0, 1),)}, obstacle, (5, 107, -1), (107, 5, -1))
        self.assertFails(Undecided, {"rings": ((0, 1),)}, obstacle, (5, 7, 108, -1), (7, 5, -1, 108))
        self.assertFails(Undecided, {"rings": ((0, 4), (1, 2))}, obstacle, (1, 2, 3, -1, 104, 5), (104, 3, 2, 5, 1, -1))

    def test_by_the_words(self):
        counted = {}
        for before, after in colored_pairs(4):
            told = slow_obstacle(before, after)
            counted[told] = counted.get(told, 0) + 1
            with self.subTest((before, after)):
                if told == "undecided":
                    self.assertFails(Undecided, {"rings": tuple(rings(before, after))}, obstacle, before, after)
                else:
                    reason = {"none": None, "rings": ("rings", tuple(rings(before, after)))}.get(told, (told,))
                    self.assertEqual(reason, obstacle(before, after))
        self.assertEqual(5, len(counted))
        self.assertGreater(min(counted.values()), 5)

    def test_safe_careful_scripts_lead_to_images_without_an_obstacle(self):
        chance = random.Random(491)
        counted = 0
        while counted < 300:
            before = random_pair(chance)[0][:chance.randrange(2, 5)]
            script = []
            for _ in range(chance.randrange(1, 5)):
                target, source = chance.sample(range(len(before)), 2)
                guard = [chance.choice("---.*0") for _ in before]
                guard[target] = "."
                script.append(("move", target, source, "".join(guard)))
            after = plain_run(script, before)
            if after != before and Lots(script, before, FromTop()).is_safe:
                counted += 1
                self.assertIn(slow_obstacle(before, after), ("none", "undecided"))


class JudgeTest(Case):
    def test_each_reason(self):
        self.assertIs(True, judge_obstacle((5, 107), (107, 5), ("full",)))
        self.assertIs(False, judge_obstacle((5, 107, -1), (107, 5, -1), ("full",)))
        self.assertIs(True, judge_obstacle((5, 7, -1, -1), (7, 5, -1, -1), ("alike",)))
        self.assertIs(False, judge_obstacle((5, 7, -1, -1), (7, -1, 5, -1), ("alike",)))
        self.assertIs(True, judge_obstacle((5, 7, 8, -1), (7, 5, -1, 8), ("rings", ((0, 1),))))
        self.assertIs(False, judge_obstacle((5, 7, 8, -1, -1), (7, 5, -1, 8, -1), ("rings", ((0, 1),))))

    def test_right_reasons_that_are_not_named(self):
        before, after = (5, 7), (7, 5)
        self.assertEqual(("full",), obstacle(before, after))
        self.assertIs(True, judge_obstacle(before, after, ("alike",)))
        before, after = (5, 7, -1), (7, 5, -1)
        self.assertEqual(("alike",), obstacle(before, after))
        self.assertIs(True, judge_obstacle(before, after, ("rings", ((0, 1),))))

    def test_tuples_of_rings(self):
        before, after = (1, 2, 3, -1, 4, 5), (2, 1, 4, 5, 3, -1)
        for told in (((0, 1),), ((2, 4),), ((0, 1), (2, 4)), ((2, 4), (0, 1)), ((2, 4), (0, 1), (2, 4)),
                     ((0, 1), (0, 1))):
            self.assertIs(True, judge_obstacle(before, after, ("rings", told)))
        for told in ((), ((1, 0),), ((0, 1), (4, 2)), ((0, 1), (2, 4), (3, 5)), ((3, 5),), (0, 1), ((),), [(0, 1)],
                     ([0, 1],), "rings", None, 5, ((0, 1), None), ((0, 1, 2, 4),), ((0, 2),)):
            self.assertIs(False, judge_obstacle(before, after, ("rings", told)), told)

    def test_wrong_reasons(self):
        before, after = (5, 7, 8, -1), (7, 5, -1, 8)
        turned = ((0, 1),)
        for reason in (None, (), ("rings",), ("rings", turned, turned), ("full", turned), ("alike", turned), ("full",),
                       ("alike",), ("none",), (None,), (5,), (turned, "rings"), ("Rings", turned), (("rings", turned),),
                       turned):
            self.assertIs(False, judge_obstacle(before, after, reason), reason)
        for reason in (("full", "full"), ("alike", ()), ("full", None)):
            self.assertIs(False, judge_obstacle((5, 7), (7, 5), reason), reason)

    def test_equal_images(self):
        for image in ((5, 7), (5, 7, -1), (-1,)):
            for reason in (None, (), ("full",), ("alike",), ("rings", ()), ("rings", ((0, 1),))):
                self.assertIs(False, judge_obstacle(image, image, reason))

    def test_several_kinds(self):
        self.assertIs(False, judge_obstacle((5, 107, -1), (107, 5, -1), ("rings", ((0, 1),))))
        self.assertIs(False, judge_obstacle((5, 7, 108, -1), (7, 5, -1, 108), ("rings", ((0, 1),))))

    def test_obstacles_are_right(self):
        for before, after in colored_pairs(4):
            if slow_obstacle(before, after) != "undecided":
                reason = obstacle(before, after)
                self.assertIs(reason is not None, judge_obstacle(before, after, reason))
            else:
                for reason in (None, ("full",), ("alike",), ("rings", tuple(rings(before, after)))):
                    self.assertIs(False, judge_obstacle(before, after, reason))


class PlanTest(Case):
    def check(self, before, after):
        script = plan(before, after)
        self.assertEqual(after, plain_run(script, before))
        self.assertEqual(len(moving(before, after)) + len(rings(before, after)), len(script))
        self.assertEqual(len(script), fewest_moves(before, after))
        self.assertIs(True, is_staircase(script, before))
        check_careful(script, before)
        # What a staircase is, written out once more.
        shown = images(script, before)
        self.assertEqual([look(image) for image in shown[:-1]], [line[3] for line in script])
        self.assertEqual(len(shown), len({look(image) for image in shown}))
        return script

    def test_examples(self):
        self.assertEqual((("alike",), 3), (obstacle((5, 7, -1, -1), (7, 5, -1, -1)),
                                           fewest_moves((5, 107, -1, -1), (107, 5, -1, -1))))
        self.assertEqual([("move", 2, 1, "00."), ("move", 1, 0, "0.0")], plan((5, 7, -1), (-1, 5, 7)))

    def test_equal_images(self):
        for image in ((5,), (-1, -1), (5, -1, 7), home(12)):
            self.assertEqual(([], 0), (plan(image, image), fewest_moves(image, image)))

    def test_all_small_pairs(self):
        for before, after in colored_pairs(4):
            with self.subTest((before, after)):
                told = slow_obstacle(before, after)
                if told == "none":
                    self.check(before, after)
                elif told == "undecided":
                    turned = tuple(rings(before, after))
                    self.assertFails(Undecided, {"rings": turned}, plan, before, after)
                    self.assertFails(Undecided, {"rings": turned}, fewest_moves, before, after)
                else:
                    reason = obstacle(before, after)
                    self.assertFails(NoPlan, {"reason": reason}, plan, before, after)
                    self.assertFails(NoPlan, {"reason": reason}, fewest_moves, before, after)

    def test_no_shorter_script_of_moves(self):
        for blocks in (1, 2, 3, 4):
            for full in range(blocks + 1):
                for kinds in (1, 2):
                    before = tuple(100 * (at % kinds) + at for at in range(full)) + (-1,) * (blocks - full)
                    lengths = distances(before)
                    for after in set(itertools.permutations(before)):
                        if slow_obstacle(before, after) == "none":
                            self.assertEqual(lengths[after], fewest_moves(before, after))

    def test_under_every_rule(self):
        chance = random.Random(501)
        pairs = [pair for pair in colored_pairs(5, 2) if len(pair[0]) > 3 and slow_obstacle(*pair) == "none"]
        ringed = [pair for pair in pairs if rings(*pair)]
        for before, after in chance.sample(pairs, 40) + chance.sample(ringed, 40):
            script = self.check(before, after)
            for rule in RULES:
                lots = Lots(script, before, rule)
                self.assertEqual((True, after), (lots.is_safe, lots.final))

    def test_many_blocks(self):
        chance = random.Random(502)
        counted = 0
        for _ in range(2000):
            before, after = random_pair(chance)
            if slow_obstacle(before, after) == "none":
                script = self.check(before, after)
                counted += len(rings(before, after)) > 1
                if len(script) < 9:
                    lots = Lots(script, before, FromMark())
                    self.assertEqual((True, after), (lots.is_safe, lots.final))
        self.assertGreater(counted, 30)

    def test_several_rings_without_a_chain(self):
        # Of the three rings only the second one changes the look.
        self.check((1, 2, 3, 104, 5, 6, -1, -1), (2, 1, 104, 3, 6, 5, -1, -1))
        self.check((1, 2, 103, 4, 5, 6, -1, 7, -1, -1, 8, 108), (2, 1, 4, 103, 6, 7, -1, 5, -1, -1, 108, 8))

    def test_several_rings_and_chains(self):
        self.check((1, 2, 3, 4, 5, 6, -1, -1), (2, 1, 4, 3, -1, -1, 5, 6))
        self.check((1, 2, 3, 4, 5, 6, -1, -1, 7, 8), (2, 1, 4, 3, -1, 5, 6, -1, 8, 7))
        self.check((1, 2, 3, 4, -1, 5, -1, 6, -1, 7, 8, 9), (2, 1, 4, 3, 5, -1, 6, -1, 7, -1, 9, 8))


class PlansTest(Case):
    def check(self, before, after):
        told = slow_obstacle(before, after)
        found = plans(before, after)
        many = 0 if before == after else 1 if told == "none" else 2
        self.assertEqual(many, len(found))
        image = before
        for script in found:
            final = plain_run(script, image)
            self.assertIs(True, is_staircase(script, image))
            self.assertEqual(len(moving(image, final)) + len(rings(image, final)), len(script))
            self.assertIsNone(obstacle(image, final))
            self.assertIs(True, len(script) > 0)
            image = final
        self.assertEqual(after, image)

    def test_all_small_pairs(self):
        for before, after in colored_pairs(4):
            with self.subTest((before, after)):
                if slow_obstacle(before, after) == "full":
                    self.assertFails(NoPlan, {"reason": ("full",)}, plans, before, after)
                else:
                    self.check(before, after)

    def test_many_blocks(self):
        chance = random.Random(511)
        for _ in range(1500):
            before, after = random_pair(chance)
            if slow_obstacle(before, after) != "full":
                self.check(before, after)

    def test_single_pairs(self):
        self.assertEqual([], plans((5, 7), (5, 7)))
        self.assertEqual([[("move", 2, 1, "00."), ("move", 1, 0, "0.0")]], plans((5, 7, -1), (-1, 5, 7)))
        for before, after in (((5, 107, -1), (107, 5, -1)), ((5, 7, -1), (7, 5, -1)), ((5, 7, 8, -1), (7, 5, -1, 8)),
                              ((1, 2, 3, 4, 5, 6, -1, 7), (2, 1, 4, 5, 3, 6, 7, -1))):
            self.check(before, after)
            self.assertEqual(2, len(plans(before, after)))

    def test_lists_are_new(self):
        plans((5, 7, -1), (-1, 5, 7))[0].clear()
        self.assertEqual([[("move", 2, 1, "00."), ("move", 1, 0, "0.0")]], plans((5, 7, -1), (-1, 5, 7)))


class CountTest(Case):
    def test_example(self):
        self.assertEqual((16, 11), (count_goals(4, 3), count_goals(4, 2)))

    def test_against_all_images_after(self):
        for blocks in (1, 2, 3, 4, 5):
            for values in range(blocks + 1):
                before = tuple(range(values)) + (-1,) * (blocks - values)
                free = [after for after in set(itertools.permutations(before)) if obstacle(before, after) is None]
                self.assertEqual(len(free), count_goals(blocks, values))

    def test_without_listing(self):
        self.assertEqual(1, count_goals(12, 12))
        self.assertEqual(1, count_goals(12, 0))
        self.assertEqual(12, count_goals(12, 1))
        # The sum of 11! / k! for k from 0 to 11.
        self.assertEqual(108505112, count_goals(12, 11))
        self.assertEqual(479001600 // 2 - 3628800 + 1, count_goals(12, 10))


class ErrorsTest(Case):
    def test_errors_of_pairs(self):
        for call in (obstacle, plan, fewest_moves, plans, lambda before, after: judge_obstacle(before, after, None)):
            self.assertFails(InvalidImage, {"block": 1}, call, (5, -2), [])
            self.assertFails(InvalidImage, {"block": -1}, call, (5, 5), [5, 5])
            self.assertFails(NotRenaming, {}, call, (5, 5), (5, 5))
            self.assertFails(NotRenaming, {}, call, (5, 6), (6, 7))
            self.assertFails(NotRenaming, {}, call, (5, -1), (5, -1, -1))


if __name__ == "__main__":
    unittest.main()
