"""Points 47 and 48: rename pairs, careful scripts, chains, rings and moving values."""
import itertools
import random
import unittest

from helpers import Case
from redolots.errors import InvalidImage, InvalidLine, NotCareful, NotRenaming
from redolots.movement import chains, check_careful, check_renaming, moving, rings

PAIR_CALLS = [check_renaming, chains, rings, moving]


def rename_pairs(most):
    """All rename pairs of up to so many blocks, but for the names of the values."""
    for blocks in range(1, most + 1):
        for full in range(blocks + 1):
            entries = tuple(range(7, 7 + full)) + (-1,) * (blocks - full)
            images = sorted(set(itertools.permutations(entries)))
            yield from itertools.product(images, images)


def random_pair(chance, blocks):
    entries = chance.sample(range(1000), blocks)
    for block in range(chance.randrange(blocks + 1)):
        entries[block] = -1
    return tuple(chance.sample(entries, blocks)), tuple(chance.sample(entries, blocks))


def is_chain(before, after, blocks):
    """Point 48, written out once more."""
    follows = all(after[to] == before[at] != -1 for to, at in zip(blocks, blocks[1:]))
    return len(blocks) > 1 and before[blocks[0]] == -1 == after[blocks[-1]] and follows


def is_ring(before, after, blocks):
    follows = all(after[to] == before[at] != -1 for to, at in zip(blocks, blocks[1:] + blocks[:1]))
    return len(blocks) > 1 and blocks[0] == min(blocks) and follows


class RenamingTest(Case):
    def test_rename_pairs(self):
        for before, after in rename_pairs(4):
            self.assertIsNone(check_renaming(before, after))
        self.assertIsNone(check_renaming((-1,) * 12, (-1,) * 12))

    def test_other_pairs(self):
        others = [((5, 6), (5, 7)), ((5, 6), (6, -1)), ((5, -1), (6, 5)), ((5, 5), (5, 5)), ((5, 5, -1), (5, -1, 5)),
                  ((5, -1), (5, -1, -1)), ((5, 6, 5), (5, 6, 6)), ((5,), (-1,)), ((-1,), (-1, -1)), ((5, 6), (5,))]
        for before, after in others:
            for call in PAIR_CALLS:
                self.assertFails(NotRenaming, {}, call, before, after)

    def test_wrong_images(self):
        for call in PAIR_CALLS:
            self.assertFails(InvalidImage, {"block": 1}, call, (5, -2), [])
            self.assertFails(InvalidImage, {"block": -1}, call, [5, 6], (1000,))
            self.assertFails(InvalidImage, {"block": -1}, call, (5, 5), [5, 5])
            self.assertFails(InvalidImage, {"block": 0}, call, (5, 5), (1000,))


class CarefulTest(Case):
    def test_careful_scripts(self):
        self.assertIsNone(check_careful([], (5,)))
        self.assertIsNone(check_careful([("move", 1, 0, "-."), ("move", 0, 1, ".*"), ("move", 0, 1, "..")], (5, 6)))
        self.assertIsNone(check_careful([("move", 11, 3, "-" * 11 + ".")], tuple(range(12))))

    def test_other_lines(self):
        careful = ("move", 1, 0, "-.-")
        for line in (("copy", 1, 0, "-.-"), ("clear", 1, -1, "-.-"), ("move", 1, 0, ""), ("move", 1, 0, "---"),
                     ("move", 1, 0, ".--"), ("move", 1, 0, "-*."), ("move", 2, 0, "0.0"), ("move", 1, 0, ".0.")):
            self.assertFails(NotCareful, {"at": 0}, check_careful, [line], (5, 6, 7))
            self.assertFails(NotCareful, {"at": 2}, check_careful, [careful, careful, line, line], (5, 6, 7))

    def test_errors_come_in_order(self):
        self.assertFails(InvalidImage, {"block": 0}, check_careful, [("move", 1, 0, ""), 3], (1000, 0))
        self.assertFails(InvalidLine, {"at": 1}, check_careful, [("move", 1, 0, ""), 3], (5, 6))
        self.assertFails(InvalidLine, {"at": -1}, check_careful, [("move", 1, 0, "")] * 61, (5, 6))
        self.assertFails(InvalidLine, {"at": -1}, check_careful, (("move", 1, 0, ""),), (5, 6))


class ChainsTest(Case):
    def test_chains_and_rings(self):
        before = (-1, 1, 2, -1, 4, 105, 6, 7, 208, 9, 10, -1)
        after = (2, 1, -1, 7, 6, 4, 105, -1, 9, 10, 208, -1)
        self.assertEqual([(0, 2), (3, 7)], chains(before, after))
        self.assertEqual([(4, 6, 5), (8, 9, 10)], rings(before, after))
        self.assertEqual((2, 4, 6, 7, 9, 10, 105, 208), moving(before, after))

    def test_a_chain_begins_with_the_block_that_is_empty_before(self):
        self.assertEqual([(3, 0, 2)], chains((5, 6, 7, -1), (7, 6, -1, 5)))
        self.assertEqual([(1, 4), (3, 0, 2)], chains((5, -1, 7, -1, 9), (7, 9, -1, 5, -1)))

    def test_a_ring_begins_with_its_least_block(self):
        self.assertEqual([(1, 3, 2)], rings((5, 6, 7, 8), (5, 8, 6, 7)))
        self.assertEqual([(0, 3), (1, 2)], rings((5, 6, 7, 8), (8, 7, 6, 5)))

    def test_equal_images(self):
        for image in ((5,), (-1,), (-1, -1), (5, -1, 7), tuple(range(12))):
            self.assertEqual(([], [], ()), (chains(image, image), rings(image, image), moving(image, image)))

    def check(self, before, after):
        lines, turned = chains(before, after), rings(before, after)
        self.assertEqual((sorted(lines), sorted(turned)), (lines, turned))
        self.assertTrue(all(is_chain(before, after, blocks) for blocks in lines))
        self.assertTrue(all(is_ring(before, after, blocks) for blocks in turned))
        told = [block for blocks in lines + turned for block in blocks]
        self.assertEqual(sorted(told), [block for block, entry in enumerate(before) if entry != after[block]])
        self.assertEqual(tuple(sorted(entry for block, entry in enumerate(before)
                                      if entry not in (-1, after[block]))), moving(before, after))

    def test_all_blocks_that_change_are_in_one(self):
        for before, after in rename_pairs(4):
            self.check(before, after)
        chance = random.Random(481)
        for _ in range(500):
            self.check(*random_pair(chance, chance.randrange(5, 13)))

    def test_lists_are_new(self):
        chains((-1, 5), (5, -1)).clear()
        rings((6, 5), (5, 6)).clear()
        self.assertEqual(([(0, 1)], [(0, 1)]), (chains((-1, 5), (5, -1)), rings((6, 5), (5, 6))))


if __name__ == "__main__":
    unittest.main()
