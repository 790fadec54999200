"""Point 46: replacing one image by another."""
import itertools
import random
import unittest

from helpers import Case, lively_line, random_image
from redolots.errors import InvalidImage, NotAnchored
from redolots.images import home, look
from redolots.lots import Lots
from redolots.machines import Lagging, Workers
from redolots.plain import plain_run
from redolots.replacing import anchors, replace_script, unanchored
from redolots.rules import FromMark, FromPoints, FromTop, Late, Rule

RULES = [Rule(), FromTop(), FromMark(), FromPoints(()), FromPoints((1, 2)), FromPoints((2,), newest=False), Late(),
         Late((0,)), FromTop() | Late((1,)), FromMark() | Late(), Lagging(0), Lagging(1), Lagging(9), Workers(1),
         Workers(2), Workers(3)]


def all_pairs(blocks, entries):
    """All pairs of images of so many blocks with these entries."""
    images = list(itertools.product(entries, repeat=blocks))
    return itertools.product(images, images)


def slow_anchors(before, after):
    found = []
    for entry in after:
        kept = [block for block in range(len(after)) if before[block] == after[block] == entry]
        found.append(min(kept) if entry != -1 and kept else -1)
    return tuple(found)


class AnchorsTest(Case):
    def test_anchors(self):
        self.assertEqual((0, 1), anchors((5, 6), (5, 6)))
        self.assertEqual((-1, -1), anchors((5, 6), (6, 5)))
        self.assertEqual((0, 0, -1), anchors((5, 6, 7), (5, 5, -1)))
        self.assertEqual((1, 1, 1, -1), anchors((4, 5, 5, -1), (5, 5, 5, -1)))
        self.assertEqual((-1, -1), anchors((-1, -1), (-1, -1)))
        self.assertEqual((-1, 1, -1), anchors((5, 6, -1), (7, 6, 5)))

    def test_example(self):
        self.assertEqual(((5, 6), ()), (unanchored((5, 6), (6, 5)), unanchored((5, 6, 7), (5, 5, -1))))

    def test_unanchored(self):
        self.assertEqual((7, 900), unanchored((5, 6, -1, 1), (900, 6, 7, 900)))
        self.assertEqual((5,), unanchored((5, -1), (-1, 5)))
        self.assertEqual((), unanchored((5, -1), (-1, -1)))

    def test_by_the_words(self):
        for before, after in all_pairs(3, (-1, 5, 6, 105)):
            told = slow_anchors(before, after)
            self.assertEqual(told, anchors(before, after))
            self.assertEqual(tuple(sorted({entry for entry, anchor in zip(after, told) if anchor == -1 != entry})),
                             unanchored(before, after))


class ScriptTest(Case):
    def check(self, before, after):
        script = replace_script(before, after)
        self.assertEqual(sum(entry != now for entry, now in zip(before, after)), len(script))
        self.assertEqual(after, plain_run(script, before))
        for op, _, _, guard in script:
            self.assertIn(op, ("copy", "clear"))
            self.assertEqual("", guard)
        return script

    def test_scripts(self):
        self.assertEqual([], self.check((5, 6), (5, 6)))
        self.assertEqual([], self.check((-1,), (-1,)))
        self.assertEqual([("clear", 0, -1, "")], self.check((5,), (-1,)))
        self.assertEqual([("clear", 0, -1, ""), ("clear", 1, -1, "")], sorted(self.check((5, 6), (-1, -1))))
        self.assertEqual([("clear", 2, -1, ""), ("copy", 1, 0, "")], sorted(self.check((5, 6, 7), (5, 5, -1))))

    def test_under_every_rule(self):
        chance = random.Random(461)
        found = {0: 0, 1: 0, 2: 0, 3: 0, 4: 0}
        for before, after in chance.sample(list(all_pairs(4, (-1, 5, 6, 105))), 400):
            if not unanchored(before, after):
                script = self.check(before, after)
                found[len(script)] += 1
                for rule in RULES:
                    lots = Lots(script, before, rule)
                    self.assertEqual((True, after), (lots.is_safe, lots.final))
        self.assertTrue(min(found[many] for many in (1, 2, 3)) > 10, found)

    def test_many_blocks(self):
        before = home(12)
        after = (0, 1, 2, 0, 1, 2, -1, -1, 0, 2, 2, 2)
        script = self.check(before, after)
        for rule in (FromTop(), FromMark(), FromPoints((4, 7)), Late((1, 3)), Lagging(3)):
            lots = Lots(script, before, rule)
            self.assertEqual((True, after), (lots.is_safe, lots.final))

    def test_not_anchored(self):
        self.assertFails(NotAnchored, {"value": 5}, replace_script, (5, 6), (6, 5))
        self.assertFails(NotAnchored, {"value": 7}, replace_script, (5, 6, -1, 1), (900, 6, 7, 900))
        for before, after in all_pairs(3, (-1, 5, 6)):
            loose = unanchored(before, after)
            if loose:
                self.assertFails(NotAnchored, {"value": min(loose)}, replace_script, before, after)

    def test_a_safe_script_with_the_same_look_anchors(self):
        chance = random.Random(462)
        counted = 0
        while counted < 150:
            blocks = chance.randrange(1, 5)
            image = random_image(chance, blocks)
            script = [lively_line(chance, blocks) for _ in range(chance.randrange(1, 5))]
            final = plain_run(script, image)
            if look(final) == look(image) and final != image and Lots(script, image, FromTop()).is_safe:
                self.assertEqual((), unanchored(image, final))
                counted += 1


class ErrorsTest(Case):
    def test_errors(self):
        for call in (anchors, unanchored, replace_script):
            with self.subTest(call.__name__):
                self.assertFails(InvalidImage, {"block": 1}, call, (5, 1000), [6])
                self.assertFails(InvalidImage, {"block": -1}, call, (), (-2,))
                self.assertFails(InvalidImage, {"block": 0}, call, (5, 6), (-2,))
                self.assertFails(InvalidImage, {"block": -1}, call, (5, 6), [5, 6])
                self.assertFails(InvalidImage, {"block": 2}, call, (5, 6), (5, 6, None))
                self.assertFails(InvalidImage, {"block": -1}, call, (5, 6), (5,))
                self.assertFails(InvalidImage, {"block": -1}, call, (5, 6), (6, 7, 8))


if __name__ == "__main__":
    unittest.main()
