"""Points 40 and 41: late lots, settled numbers and repeated lines."""
import itertools
import random
import unittest

from helpers import Case, all_logs, random_log, slow_apply
from redolots.copylog import copies
from redolots.errors import Unsettled
from redolots.images import FREE, home
from redolots.joins import knots
from redolots.lots import Lots
from redolots.repeats import late_lots, repeats, settled
from redolots.rules import Late


def end_lots(log, blocks):
    lots = Lots(log, home(blocks), Late())
    return tuple(lots.end_lot(block) for block in range(blocks))


def slow_settled(log, blocks):
    """Point 41, written out once more: from block to block, as deep as the sources go."""
    lots = end_lots(log, blocks)
    bound = {block for knot in knots(log, blocks) for block in knot}

    def number(block):
        sources = [source for _, target, source, _ in log if target == block]
        if not sources:
            return block
        if block in bound:
            return lots[block][0] if len(lots[block]) == 1 else FREE
        told = {number(source) for source in sources}
        return told.pop() if len(told) == 1 else FREE

    return tuple(number(block) for block in range(blocks))


def some_logs():
    yield [], 1
    yield [], 12
    for log in all_logs(3, 4):
        yield log, 3
    chance = random.Random(41)
    for _ in range(500):
        blocks = chance.randrange(2, 8)
        yield random_log(chance, blocks, chance.randrange(10)), blocks
    for _ in range(100):
        # Each block has one source, so that all numbers are settled.
        blocks = chance.randrange(3, 9)
        log = [("copy", block, chance.randrange(block), "") for block in range(1, blocks)]
        log += [chance.choice(log) for _ in range(chance.randrange(4))]
        chance.shuffle(log)
        yield log, blocks


class LateLotsTest(Case):
    def test_example(self):
        log = copies((1, 0), (0, 2))
        self.assertEqual((((2,), (0, 2), (2,)), [0]), (late_lots(log, 3), repeats(log, 3)))

    def test_a_line_replaces_a_lot(self):
        self.assertEqual(((0,), (1,)), late_lots([], 2))
        self.assertEqual(((0,), (0,)), late_lots(copies((1, 0)), 2))
        self.assertEqual(((0,), (0, 2), (2,)), late_lots(copies((1, 0), (1, 2)), 3))
        self.assertEqual(((0,), (0,), (0,)), late_lots(copies((1, 0), (2, 1), (0, 1)), 3))

    def test_lines_take_in_after_each_line(self):
        log = copies((1, 0), (2, 1), (0, 3), (4, 2), (0, 4))
        self.assertEqual(end_lots(log, 5), late_lots(log, 5))
        self.assertEqual(((0, 3), (0, 3), (0, 3), (3,), (0, 3)), late_lots(log, 5))

    def test_against_lots(self):
        for log, blocks in some_logs():
            with self.subTest((log, blocks)):
                self.assertEqual(end_lots(log, blocks), late_lots(log, blocks))

    def test_long_logs(self):
        chance = random.Random(42)
        for at in range(8):
            log = random_log(chance, 12, 60)
            if at % 2:
                # Without lines against the order the lots stay small.
                log = [("copy", max(line[1:3]), min(line[1:3]), "") for line in log]
            self.assertEqual(end_lots(log, 12), late_lots(log, 12))


class SettledTest(Case):
    def test_without_lines(self):
        self.assertEqual((0, 1, 2), settled([], 3))
        self.assertEqual((0, 1, 1), settled(copies((2, 1)), 3))

    def test_sources_that_disagree(self):
        self.assertEqual((0, FREE, 2), settled(copies((1, 0), (1, 2)), 3))
        self.assertEqual((0, 0, 0), settled(copies((1, 0), (2, 1), (2, 0)), 3))
        self.assertEqual((0, 0, 2, FREE), settled(copies((1, 0), (3, 1), (3, 0), (3, 2)), 4))

    def test_a_source_without_a_number(self):
        self.assertEqual((0, FREE, 2, FREE), settled(copies((1, 0), (1, 2), (3, 1)), 4))
        self.assertEqual((0, FREE, 2, FREE), settled(copies((1, 0), (1, 2), (3, 1), (3, 0)), 4))
        self.assertEqual((FREE, FREE, FREE, 3), settled(copies((0, 1), (1, 3), (1, 0), (2, 0), (2, 1)), 4))

    def test_knots(self):
        self.assertEqual((1, 1), settled(copies((0, 1), (1, 0)), 2))
        self.assertEqual((0, 0), settled(copies((1, 0), (0, 1)), 2))
        self.assertEqual((FREE, FREE, 2), settled(copies((1, 0), (0, 2), (0, 1)), 3))
        # The late lot of the knot counts, not the number of the source.
        self.assertEqual((0, 0, 0), settled(copies((1, 0), (2, 1), (1, 2)), 3))
        self.assertEqual((0, FREE, FREE), settled(copies((2, 1), (1, 2), (1, 0)), 3))

    def test_a_block_behind_a_knot(self):
        self.assertEqual((0, 0, 0), settled(copies((1, 0), (0, 1), (2, 1)), 3))
        self.assertEqual((0, 0, 0), settled(copies((2, 1), (1, 0), (0, 1)), 3))

    def test_a_knot_may_have_one_block_with_a_number(self):
        for log, blocks in some_logs():
            told = settled(log, blocks)
            for knot in knots(log, blocks):
                for block in knot:
                    lot = end_lots(log, blocks)[block]
                    self.assertEqual(lot[0] if len(lot) == 1 else FREE, told[block])

    def test_by_the_words(self):
        free = 0
        for log, blocks in some_logs():
            with self.subTest((log, blocks)):
                self.assertEqual(slow_settled(log, blocks), settled(log, blocks))
                free += FREE in settled(log, blocks)
        self.assertTrue(free > 100)


class RepeatsTest(Case):
    def check(self, log, blocks):
        """The longer log is safe and has the settled numbers, and it has as few lines as the lots ask for."""
        told = repeats(log, blocks)
        self.assertIsInstance(told, list)
        lots = Lots(log + [log[at] for at in told], home(blocks), Late())
        self.assertIs(True, lots.is_safe)
        self.assertEqual(settled(log, blocks), lots.final)
        self.assertEqual(len([lot for lot in late_lots(log, blocks) if len(lot) > 1]), len(told))
        return told

    def test_safe_logs(self):
        self.assertEqual([], repeats([], 2))
        self.assertEqual([], repeats(copies((1, 0), (2, 1)), 3))
        self.assertEqual([], repeats(copies((1, 0), (0, 1)), 2))

    def test_one_behind_another(self):
        log = copies((3, 2), (2, 1), (1, 0), (0, 4))
        self.assertEqual([2, 1, 0], self.check(log, 5))

    def test_no_shorter_list(self):
        mended = 0
        for log, blocks in list(some_logs())[:1500:4] + [(log, 4) for log in
                                                         [copies((3, 2), (2, 1), (1, 0)), copies((2, 1), (1, 0))]]:
            fewest = self.fewest(log, blocks)
            with self.subTest((log, blocks)):
                if fewest is None:
                    least = settled(log, blocks).index(FREE)
                    self.assertFails(Unsettled, {"block": least}, repeats, log, blocks)
                else:
                    self.assertEqual(fewest, len(self.check(log, blocks)))
                    mended += fewest > 0
        self.assertTrue(mended > 20)

    def fewest(self, log, blocks):
        """How many own lines make the log safe, by trying all lists of up to one line for each block."""
        for many in range(blocks + 1):
            for more in itertools.product(log, repeat=many):
                if Lots(log + list(more), home(blocks), Late()).is_safe:
                    return many
            if not log:
                return None
        return None

    def test_greater_logs(self):
        mended = 0
        for log, blocks in some_logs():
            if FREE in settled(log, blocks):
                self.assertFails(Unsettled, {"block": settled(log, blocks).index(FREE)}, repeats, log, blocks)
            else:
                mended += len(self.check(log, blocks)) > 1
        self.assertTrue(mended > 20)

    def test_unsettled(self):
        self.assertFails(Unsettled, {"block": 1}, repeats, copies((1, 0), (1, 2)), 3)
        self.assertFails(Unsettled, {"block": 1}, repeats, copies((3, 1), (1, 0), (1, 2)), 4)
        self.assertFails(Unsettled, {"block": 0}, repeats, copies((0, 3), (3, 1), (3, 2)), 4)
        self.assertFails(Unsettled, {"block": 0}, repeats, copies((1, 0), (0, 2), (0, 1)), 3)

    def test_logs_of_sixty_lines(self):
        log = copies(*[(at + 1, at) for at in range(11)][::-1] * 5 + [(1, 0)] * 5)
        told = repeats(log, 12)
        self.assertEqual(60, len(log))
        self.assertTrue(all(0 <= at < 60 for at in told))
        self.assertEqual(len([lot for lot in late_lots(log, 12) if len(lot) > 1]), len(told))
        self.assertTrue(len(told) > 3)
        self.assertEqual((0,) * 12, settled(log, 12))
        self.assertEqual((0,) * 12, self.played(log + [log[at] for at in told]))

    def played(self, log):
        """The image behind a log that is too long for the functions."""
        image = home(12)
        for line in log:
            image = slow_apply(line, image)
        return image

    def test_lists_are_new(self):
        log = copies((1, 0), (0, 2))
        repeats(log, 3).append(3)
        self.assertEqual((copies((1, 0), (0, 2)), [0]), (log, repeats(log, 3)))


if __name__ == "__main__":
    unittest.main()
