"""Point 9: the undisturbed run and the flow."""
import itertools
import random
import unittest

from helpers import Case, random_image, random_script, slow_apply, slow_look
from redolots.errors import InvalidImage, InvalidLine
from redolots.plain import flow, images, plain_run

LOG = [("copy", 1, 0, ""), ("copy", 2, 1, ""), ("copy", 1, 3, "")]


class UndisturbedRunTest(Case):
    def test_example(self):
        self.assertEqual((0, 3, 0, 3), plain_run(LOG, (0, 1, 2, 3)))

    def test_images_at_all_positions(self):
        self.assertEqual([(0, 1, 2, 3), (0, 0, 2, 3), (0, 0, 0, 3), (0, 3, 0, 3)], images(LOG, (0, 1, 2, 3)))

    def test_all_words(self):
        script = [("move", 0, 1, ".-"), ("copy", 1, 0, "*."), ("clear", 0, -1, "11"), ("clear", 1, -1, "0-")]
        self.assertEqual([(-1, 105), (105, -1), (105, 105), (-1, 105), (-1, 105)], images(script, (-1, 105)))
        self.assertEqual((-1, 105), plain_run(script, (-1, 105)))

    def test_empty_script(self):
        self.assertEqual([(5, -1)], images([], (5, -1)))
        self.assertEqual((5, -1), plain_run([], (5, -1)))
        self.assertEqual((0, -1), flow([], "3."))

    def test_longest_script(self):
        script = [("copy", 1, 0, ""), ("clear", 1, -1, "")] * 30
        self.assertEqual([(4, -1), (4, 4)] * 30 + [(4, -1)], images(script, (4, -1)))

    def test_against_the_slow_way(self):
        chance = random.Random(9)
        for _ in range(300):
            blocks = chance.randrange(1, 6)
            image = random_image(chance, blocks)
            script = random_script(chance, blocks, chance.randrange(9))
            told = [image]
            for line in script:
                told.append(slow_apply(line, told[-1]))
            self.assertEqual(told, images(script, image))
            self.assertEqual(told[-1], plain_run(script, image))

    def test_errors(self):
        for call in (images, plain_run):
            self.assertFails(InvalidImage, {"block": -1}, call, None, ())
            self.assertFails(InvalidImage, {"block": 1}, call, [None], (0, -2))
            self.assertFails(InvalidImage, {"block": 0}, call, [], ("a",))
            self.assertFails(InvalidLine, {"at": -1}, call, (), (0, 1))
            self.assertFails(InvalidLine, {"at": -1}, call, LOG * 21, (0, 1, 2, 3))
            self.assertFails(InvalidLine, {"at": 1}, call, LOG, (0, 1))
            self.assertFails(InvalidLine, {"at": 2}, call, LOG, (0, 1, 2))

    def test_nothing_is_changed_and_lists_are_new(self):
        script = list(LOG)
        image = (0, 1, 2, 3)
        first = images(script, image)
        first.append(None)
        first[0] = None
        self.assertEqual(4, len(images(script, image)))
        self.assertEqual(image, images(script, image)[0])
        plain_run(script, image)
        flow(script, "0000")
        self.assertEqual(LOG, script)
        self.assertIsNot(images([], image), images([], image))


class FlowTest(unittest.TestCase):
    def test_flow(self):
        self.assertEqual((0, 3, 0, 3), flow(LOG, "0000"))
        self.assertEqual((0, 3, 0, 3), flow(LOG, "5.17"))
        self.assertEqual((0, 0, 0, -1), flow(LOG, "0..."))
        self.assertEqual((-1, 1, 1, -1), flow(LOG, ".0.."))

    def test_guards_see_the_look_of_their_position(self):
        script = [("move", 1, 0, ""), ("move", 0, 2, "..-"), ("copy", 0, 1, ".4-")]
        self.assertEqual((0, 0, -1), flow(script, "4.."))
        self.assertEqual((0, 0, 2), flow(script, "4.1"))
        self.assertEqual((-1, 0, -1), flow(script, "5.."))
        self.assertEqual((2, -1, -1), flow(script, "..7"))

    def test_flow_leads_from_each_image_with_the_look(self):
        chance = random.Random(10)
        for _ in range(100):
            script = random_script(chance, 3, chance.randrange(8))
            for image in itertools.product((-1, 3, 40, 111), repeat=3):
                told = flow(script, slow_look(image))
                self.assertIsInstance(told, tuple)
                self.assertEqual(plain_run(script, image), tuple(-1 if at == -1 else image[at] for at in told))

    def test_sources_are_full_blocks(self):
        chance = random.Random(11)
        for _ in range(300):
            script = random_script(chance, 3, chance.randrange(8))
            for view in ("...", "0..", ".1.", "00.", "011"):
                for at in flow(script, view):
                    self.assertTrue(at == -1 or view[at] != ".")


if __name__ == "__main__":
    unittest.main()
