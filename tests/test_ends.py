"""Point 54: all final images, and point 56: the blocks that tell the wrong ones."""
import itertools
import unittest

from helpers import BACKWARDS, ENDLESS, Case, Slow, many_places, small_cases
from redolots.copylog import copies
from redolots.ends import all_ends, telling_blocks, unnoticed
from redolots.errors import InvalidImage, InvalidLine, TooMany
from redolots.images import home
from redolots.lots import Lots
from redolots.machines import Lagging, Machine, Workers
from redolots.plain import plain_run
from redolots.rules import FromMark, FromTop, Late, Rule

LOG = copies((1, 0), (0, 2))


def many_pairs(pairs, ends):
    """A script, an image and a rule with 20000 or 20001 pairs: 625 images at each state from the first or second on."""
    script = copies(*itertools.product(range(4), range(4, 9)))
    before = pairs - 20000
    edges = [(0, -1, 1)] * before + [(before, line, before) for line in range(20)]
    edges += [(state, -1, state + 1) for state in range(before, before + 31)]
    return script, (4, 4, 4, 4, 4, 5, 6, 7, 8), Machine(before + 32, tuple(edges), ends)


class EndsTest(Case):
    def test_example(self):
        self.assertEqual(([(2, 0, 2), (2, 2, 2)], (1,)),
                         (all_ends(LOG, home(3), Late()), telling_blocks(LOG, home(3), Late())))

    def test_single_rules(self):
        self.assertEqual([(2, 0, 2)], all_ends(LOG, home(3), Rule()))
        self.assertEqual([(5, -1)], all_ends([], (5, -1), FromTop()))
        self.assertEqual([(2, 0, 2), (2, 2, 2)], all_ends(LOG, home(3), FromTop()))

    def test_against_a_slow_search(self):
        found = 0
        for script, image, rule in small_cases(541, 120):
            with self.subTest((script, image, str(rule))):
                ends = Slow(script, image, rule).ends()
                self.assertEqual(ends, all_ends(script, image, rule))
                found += len(ends) > 1
        self.assertGreater(found, 200)

    def test_no_complete_run(self):
        self.assertEqual([], all_ends(LOG, home(3), ENDLESS))
        self.assertEqual([], all_ends(LOG, home(3), Machine(2, ((0, 0, 0),), (1,))))

    def test_ends_that_go_on(self):
        self.assertEqual([(0, 0, 2), (0, 1, 2)], all_ends(LOG, home(3), Machine(1, ((0, 0, 0),), (0,))))

    def test_many_pairs(self):
        script, image, rule = many_pairs(20000, (0,))
        ends = all_ends(script, image, rule)
        self.assertEqual([left + (4, 5, 6, 7, 8) for left in itertools.product(range(4, 9), repeat=4)], ends)
        for ends in ((0,), (), (31,)):
            for call in (all_ends, telling_blocks, lambda *args: unnoticed(*args, (0,))):
                self.assertFails(TooMany, {"limit": 20000}, call, *many_pairs(20001, ends))

    def test_no_other_bound(self):
        script, _, rule = many_places(5001)
        self.assertFails(TooMany, {"limit": 5000}, Lots, script, (7,) * 8, rule)
        self.assertEqual([], all_ends(script, (7,) * 8, rule))
        self.assertEqual((), telling_blocks(script, (7,) * 8, rule))

    def test_errors_come_in_order(self):
        script, image, rule = many_pairs(20001, ())
        for call in (all_ends, telling_blocks, lambda *args: unnoticed(*args, ())):
            self.assertFails(InvalidImage, {"block": 1}, call, [3], (0, -2), Rule())
            self.assertFails(InvalidImage, {"block": -1}, call, [3], [0, 1], Rule())
            self.assertFails(InvalidLine, {"at": 0}, call, [3], (0, 1), Rule())
            self.assertFails(InvalidLine, {"at": -1}, call, tuple(LOG), home(3), Rule())
            self.assertFails(InvalidLine, {"at": 20}, call, script + [3], image, rule)

    def test_lists_are_new(self):
        script = list(LOG)
        all_ends(script, home(3), Late()).clear()
        unnoticed(script, home(3), Late(), (0,)).clear()
        self.assertEqual((LOG, 2, 1), (script, len(all_ends(script, home(3), Late())),
                                       len(unnoticed(script, home(3), Late(), (0,)))))


class WrongTest(Case):
    def test_unnoticed(self):
        self.assertEqual([(2, 2, 2)], unnoticed(LOG, home(3), Late(), ()))
        self.assertEqual([(2, 2, 2)], unnoticed(LOG, home(3), Late(), (0, 2)))
        self.assertEqual([], unnoticed(LOG, home(3), Late(), (1,)))
        self.assertEqual([], unnoticed(LOG, home(3), Rule(), ()))

    def test_against_all_tuples_of_blocks(self):
        seen = {}
        for script, image, rule in small_cases(561, 60):
            with self.subTest((script, image, str(rule))):
                right = plain_run(script, image)
                ends = Slow(script, image, rule).ends()
                tuples = [blocks for many in range(len(image) + 1)
                          for blocks in itertools.combinations(range(len(image)), many)]
                empty = []
                for blocks in tuples:
                    wrong = [end for end in ends if end != right and all(end[at] == right[at] for at in blocks)]
                    self.assertEqual(wrong, unnoticed(script, image, rule, blocks))
                    if not wrong:
                        empty.append(blocks)
                told = telling_blocks(script, image, rule)
                self.assertEqual(empty[0], told)
                seen[told] = seen.get(told, 0) + 1
        self.assertTrue({(), (0,), (1,), (2,)} <= set(seen) and any(len(told) > 1 for told in seen), seen)

    def test_several_blocks(self):
        script = copies((0, 3), (1, 3), (2, 3))
        rule = Machine(1, ((0, 0, 0), (0, 1, 0), (0, 2, 0)), (0,))
        self.assertEqual((0, 1, 2), telling_blocks(script, home(4), rule))
        self.assertEqual([(0, 3, 3, 3)], unnoticed(script, home(4), rule, (1, 2)))
        # With the first line executed at first only the others can be missing.
        rule = Machine(2, ((0, 0, 1), (1, 1, 1), (1, 2, 1)), (1,))
        self.assertEqual((1, 2), telling_blocks(script, home(4), rule))

    def test_no_wrong_final_image(self):
        self.assertEqual((), telling_blocks(LOG, home(3), Rule()))
        self.assertEqual((), telling_blocks(LOG, home(3), ENDLESS))
        self.assertEqual((), telling_blocks([], (-1, -1), FromTop()))

    def test_the_undisturbed_run_need_not_be_a_run(self):
        self.assertEqual([(2, 2, 2)], all_ends(LOG, home(3), Machine(3, ((0, 1, 1), (1, 0, 2)), (2,))))
        backwards = Machine(3, ((0, 1, 1), (1, 0, 2)), (2,))
        self.assertEqual([(2, 2, 2)], unnoticed(LOG, home(3), backwards, (0, 2)))
        self.assertEqual((1,), telling_blocks(LOG, home(3), backwards))
        self.assertEqual(Slow(LOG, home(3), BACKWARDS).ends(), all_ends(LOG, home(3), BACKWARDS))

    def test_many_wrong_images(self):
        script = copies(*[(block, 0) for block in range(1, 12)])
        rule = Machine(1, tuple((0, line, 0) for line in range(11)), (0,))
        self.assertEqual(2048, len(all_ends(script, home(12), rule)))
        self.assertEqual(tuple(range(1, 12)), telling_blocks(script, home(12), rule))
        self.assertEqual(2 ** 9 - 1, len(unnoticed(script, home(12), rule, (0, 3, 11))))

    def test_longer_scripts(self):
        script = copies((1, 0), (2, 1), (1, 3), (4, 2), (0, 4))
        for rule in (FromMark(), Late(), Lagging(2), Workers(2), FromTop()):
            wrong = [end for end in Slow(script, home(5), rule).ends() if end != plain_run(script, home(5))]
            self.assertEqual(wrong, unnoticed(script, home(5), rule, ()))


if __name__ == "__main__":
    unittest.main()
