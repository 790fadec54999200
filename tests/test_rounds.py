"""Point 53, rounds and stories, and point 50, staircases."""
import random
import unittest

from helpers import Case, Slow, random_image, random_script, slow_apply, slow_look
from redolots.copylog import copies
from redolots.errors import InvalidImage, InvalidLine, InvalidRun, NotCareful
from redolots.images import home
from redolots.lots import Lots
from redolots.plain import plain_run
from redolots.plans import plan
from redolots.rounds import by_look, is_staircase, play_story
from redolots.rules import FromTop

# After a cut behind the first line the second value goes where the first one was to go.
SPOILED = [("move", 2, 0, "--."), ("move", 0, 1, ".--")]


def careful_script(chance, blocks, length):
    script = []
    for _ in range(length):
        target, source = chance.sample(range(blocks), 2)
        guard = [chance.choice("-------.*0") for _ in range(blocks)]
        guard[target] = "."
        script.append(("move", target, source, "".join(guard)))
    return script


def careful_cases(seed, times):
    """Careful scripts with images in which few blocks are empty."""
    chance = random.Random(seed)
    for _ in range(times):
        blocks = chance.choice([2, 3, 4, 4, 5])
        entries = [-1, chance.choice([-1, 5])] + [chance.choice([5, 7 + block, 8, 107]) for block in range(2, blocks)]
        image = tuple(chance.sample(entries, blocks))
        yield careful_script(chance, blocks, chance.choice([0, 1, 2, 4, 6, 8, 9])), image


def slow_story(script, image, story):
    for cut in story + (len(script),):
        for at in range(cut):
            image = slow_apply(script[at], image)
    return image


def slow_beginnings(script, image):
    """All images at which a round can begin: those in the first state under FromTop."""
    return [held for state, held in Slow(script, image, FromTop()).distances if state == (0,)]


class StoryTest(Case):
    def test_stories(self):
        self.assertEqual((6, -1, 5), play_story(SPOILED, (5, 6, -1), ()))
        self.assertEqual((6, -1, 5), play_story(SPOILED, (5, 6, -1), (1,)))
        self.assertEqual((2, 2, 2), play_story(copies((1, 0), (0, 2)), home(3), (2,)))
        self.assertEqual((2, 0, 2), play_story(copies((1, 0), (0, 2)), home(3), (1, 0, 1)))

    def test_by_the_words(self):
        chance = random.Random(531)
        for _ in range(300):
            blocks = chance.randrange(1, 6)
            script = random_script(chance, blocks, chance.randrange(7))
            image = random_image(chance, blocks)
            story = tuple(chance.randrange(len(script) + 1) for _ in range(chance.randrange(4)))
            self.assertEqual(slow_story(script, image, story), play_story(script, image, story))

    def test_wrong_numbers(self):
        script = copies((1, 0), (0, 2))
        for story, at in (((3,), 0), ((-1,), 0), ((0, 1, 2, 3, -1), 3), ((2, 2, -1, 3), 2), ((0, 10 ** 30), 1)):
            self.assertFails(InvalidRun, {"at": at}, play_story, script, home(3), story)
        self.assertFails(InvalidRun, {"at": 0}, play_story, [], home(3), (1,))
        self.assertEqual(home(3), play_story([], home(3), (0, 0)))

    def test_errors_come_in_order(self):
        self.assertFails(InvalidImage, {"block": 0}, play_story, [3], (1000,), (5,))
        self.assertFails(InvalidLine, {"at": 0}, play_story, [3], (5,), (5,))
        self.assertFails(InvalidLine, {"at": -1}, play_story, (), (5,), (5,))


class LookTest(Case):
    def test_single_scripts(self):
        self.assertEqual(("safe", (5, -1), [("0.", (5, -1))]), by_look([], (5, -1)))
        self.assertEqual(("safe", (-1, 5), [(".0", (-1, 5)), ("0.", (5, -1))]),
                         by_look([("move", 1, 0, "-.")], (5, -1)))
        script = plan((5, 7, -1), (-1, 5, 7))
        self.assertEqual(("safe", (-1, 5, 7), [(".00", (-1, 5, 7)), ("0.0", (5, -1, 7)), ("00.", (5, 7, -1))]),
                         by_look(script, (5, 7, -1)))

    def test_an_unsafe_script(self):
        script = [("move", 2, 0, "--."), ("move", 0, 1, ".--"), ("move", 1, 2, "-.-")]
        word, story = by_look(script, (5, 6, -1))
        self.assertEqual("unsafe", word)
        self.assertNotEqual(plain_run(script, (5, 6, -1)), slow_story(script, (5, 6, -1), story))

    def test_against_a_slow_search(self):
        counted = {"safe": 0, "unsafe": 0}
        longest = 0
        for script, image in careful_cases(532, 4000):
            with self.subTest((script, image)):
                right = plain_run(script, image)
                found = by_look(script, image)
                counted[found[0]] += 1
                if len(Slow(script, image, FromTop()).ends()) == 1:
                    beginnings = sorted((slow_look(held), held) for held in slow_beginnings(script, image))
                    self.assertEqual(("safe", right, beginnings), found)
                    self.assertEqual(len(beginnings), len({view for view, _ in beginnings}))
                    longest = max(longest, len(beginnings))
                else:
                    word, story = found
                    self.assertEqual(("unsafe", tuple), (word, story.__class__))
                    self.assertNotEqual(right, slow_story(script, image, story))
        self.assertGreater(min(counted.values()), 200)
        self.assertGreater(longest, 4)

    def test_against_lots(self):
        chance = random.Random(533)
        for _ in range(60):
            blocks = chance.randrange(5, 8)
            image = tuple(chance.choice([-1, 7 + block, 100 + block]) for block in range(blocks))
            script = careful_script(chance, blocks, chance.randrange(3, 12))
            safe = Lots(script, image, FromTop()).is_safe
            self.assertEqual("safe" if safe else "unsafe", by_look(script, image)[0])

    def test_plans_have_one_beginning_for_each_position(self):
        for before, after in (((1, 2, 3, 4, -1, -1), (2, 1, -1, 3, 4, -1)), ((1, 102, -1, -1), (102, 1, -1, -1))):
            script = plan(before, after)
            word, final, beginnings = by_look(script, before)
            self.assertEqual(("safe", after, len(script) + 1), (word, final, len(beginnings)))

    def test_two_images_with_one_look(self):
        # Both beginnings of the look come up before the script has ended wrong.
        found = 0
        for script, image in careful_cases(534, 4000):
            views = [slow_look(held) for held in slow_beginnings(script, image)]
            if len(set(views)) < len(views):
                found += 1
                self.assertEqual("unsafe", by_look(script, image)[0])
        self.assertGreater(found, 80)

    def test_errors_come_in_order(self):
        self.assertFails(InvalidImage, {"block": 0}, by_look, [("move", 1, 0, ""), 3], (1000, 0))
        self.assertFails(InvalidLine, {"at": 1}, by_look, [("move", 1, 0, ""), 3], (5, 6))
        self.assertFails(NotCareful, {"at": 1}, by_look, [("move", 1, 0, "-."), ("copy", 1, 0, "-.")], (5, 6))
        self.assertFails(NotCareful, {"at": 0}, by_look, [("move", 1, 0, "")] * 2, (5, 6))

    def test_lists_are_new(self):
        script = [("move", 1, 0, "-.")]
        by_look(script, (5, -1))[2].clear()
        self.assertEqual(2, len(by_look(script, (5, -1))[2]))
        self.assertEqual([("move", 1, 0, "-.")], script)


class StaircaseTest(Case):
    BEFORE = (5, 7, -1, 108)

    def test_plans(self):
        script = plan(self.BEFORE, (-1, 5, 7, 108))
        self.assertEqual([("move", 2, 1, "00.1"), ("move", 1, 0, "0.01")], script)
        self.assertIs(True, is_staircase(script, self.BEFORE))
        self.assertIs(True, is_staircase(plan((1, 102, -1, -1), (102, 1, -1, -1)), (1, 102, -1, -1)))
        self.assertIs(True, is_staircase([], self.BEFORE))

    def test_equal_values(self):
        self.assertIs(True, is_staircase([("move", 2, 1, "00."), ("move", 1, 0, "0.0")], (5, 5, -1)))

    def test_lines_that_are_not_careful(self):
        self.assertIs(False, is_staircase([("copy", 2, 1, "00.1")], self.BEFORE))
        self.assertIs(False, is_staircase([("clear", 2, -1, "00.1")], self.BEFORE))
        self.assertIs(False, is_staircase([("move", 2, 1, "")], self.BEFORE))
        self.assertIs(False, is_staircase([("move", 1, 0, "00.1")], self.BEFORE))

    def test_guards_that_are_not_the_look(self):
        for guard in ("--.-", "00.-", "0*.1", "-0.1", "**.*"):
            self.assertIs(False, is_staircase([("move", 2, 1, guard)], self.BEFORE))
        self.assertIs(False, is_staircase([("move", 2, 1, "00.1"), ("move", 1, 0, "00.1")], self.BEFORE))

    def test_lines_that_do_not_fire(self):
        self.assertIs(False, is_staircase([("move", 2, 1, "01.1")], self.BEFORE))
        self.assertIs(False, is_staircase([("move", 1, 0, "..")], (-1, -1)))

    def test_looks_that_come_twice(self):
        there, back = ("move", 2, 1, "00.1"), ("move", 1, 2, "0.01")
        self.assertIs(True, is_staircase([there], self.BEFORE))
        self.assertIs(False, is_staircase([there, back], self.BEFORE))
        # The images are different, but the looks are not.
        ring = [("move", 2, 0, "00."), ("move", 0, 1, ".00"), ("move", 1, 2, "0.0")]
        self.assertIs(False, is_staircase(ring, (5, 7, -1)))
        ring = [("move", 2, 0, "01."), ("move", 0, 1, ".10"), ("move", 1, 2, "1.0")]
        self.assertIs(True, is_staircase(ring, (5, 107, -1)))

    def test_by_the_words(self):
        chance = random.Random(535)
        counted = {True: 0, False: 0}
        for _ in range(3000):
            image = tuple(chance.choice([-1, -1, 5, 6, 107]) for _ in range(4))
            held, script, views = image, [], [slow_look(image)]
            told = True
            for _ in range(chance.randrange(1, 4)):
                target, source = chance.sample(range(4), 2)
                guard = chance.choice([views[-1]] * 9 + [views[-1].replace("0", "*")])
                line = ("move", target, source, guard)
                told = told and guard == views[-1] and guard[target] == "." and held[source] != -1
                held = slow_apply(line, held)
                script.append(line)
                views.append(slow_look(held))
            told = told and len(set(views)) == len(views)
            counted[told] += 1
            self.assertIs(told, is_staircase(script, image))
        self.assertGreater(counted[True], 200)

    def test_errors(self):
        self.assertFails(InvalidImage, {"block": 1}, is_staircase, [3], (0, -2))
        self.assertFails(InvalidLine, {"at": 1}, is_staircase, [("move", 1, 0, ""), 3], (0, 1))
        self.assertFails(InvalidLine, {"at": -1}, is_staircase, (), (0, 1))


if __name__ == "__main__":
    unittest.main()
