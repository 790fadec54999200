"""Points 4 and 5: images, looks and the home image."""
import unittest

from helpers import Case, slow_look
from redolots.errors import InvalidImage
from redolots.images import EMPTY, FREE, check_image, home, look


class CheckImageTest(Case):
    def test_numbers(self):
        self.assertEqual((-1, -2), (EMPTY, FREE))

    def test_images(self):
        for image in ((0,), (-1,), (999,), (-1, 0, 999), (5, 5, 5), tuple(range(12)), (-1,) * 12, (999,) * 12):
            with self.subTest(image):
                self.assertIsNone(check_image(image))

    def test_every_length(self):
        for blocks in range(16):
            with self.subTest(blocks):
                if 1 <= blocks <= 12:
                    self.assertIsNone(check_image((3,) * blocks))
                else:
                    self.assertFails(InvalidImage, {"block": -1}, check_image, (3,) * blocks)

    def test_no_tuple(self):
        for image in ([0, 1], [], None, "01", "", 7, 0, {0: 1}, {1, 2}, b"01", range(2)):
            with self.subTest(repr(image)):
                self.assertFails(InvalidImage, {"block": -1}, check_image, image)

    def test_wrong_entries(self):
        for entry in (-2, 1000, -3, 10 ** 30, -10 ** 30, None, "5", "", (5,), (), [5], 5.0, b"5"):
            for block in range(4):
                with self.subTest((entry, block)):
                    image = (0, 1, 2, 3)
                    image = image[:block] + (entry,) + image[block + 1:]
                    self.assertFails(InvalidImage, {"block": block}, check_image, image)

    def test_wrong_entry_at_the_ends(self):
        self.assertFails(InvalidImage, {"block": 0}, check_image, (FREE,))
        self.assertFails(InvalidImage, {"block": 11}, check_image, (999,) * 11 + (1000,))

    def test_first_of_two_wrong_entries(self):
        self.assertFails(InvalidImage, {"block": 1}, check_image, (0, 1000, -2, 3))
        self.assertFails(InvalidImage, {"block": 1}, check_image, (0, None, "a"))
        self.assertFails(InvalidImage, {"block": 0}, check_image, (-2, 4, None))

    def test_length_counts_before_the_entries(self):
        self.assertFails(InvalidImage, {"block": -1}, check_image, (None,) * 13)
        self.assertFails(InvalidImage, {"block": -1}, check_image, [None])


class LookTest(Case):
    def test_example(self):
        self.assertEqual("0.1", look((5, -1, 120)))

    def test_ends_of_kinds(self):
        self.assertEqual(".001889", look((-1, 0, 99, 100, 899, 800, 999)))
        self.assertEqual("9", look((900,)))

    def test_each_value(self):
        for value in range(-1, 1000):
            self.assertEqual(slow_look((value,)), look((value,)))

    def test_empty_blocks(self):
        self.assertEqual("." * 12, look((-1,) * 12))
        self.assertEqual(".0.", look((-1, 0, -1)))

    def test_no_image(self):
        self.assertFails(InvalidImage, {"block": -1}, look, ())
        self.assertFails(InvalidImage, {"block": -1}, look, [5])
        self.assertFails(InvalidImage, {"block": -1}, look, (0,) * 13)
        self.assertFails(InvalidImage, {"block": 2}, look, (0, 1, 1000))
        self.assertFails(InvalidImage, {"block": 1}, look, (0, "1", -2))


class HomeTest(unittest.TestCase):
    def test_home(self):
        self.assertEqual((0,), home(1))
        self.assertEqual((0, 1, 2, 3), home(4))
        self.assertEqual((0, 1, 2, 3, 4, 5, 6, 7, 8, 9, 10, 11), home(12))

    def test_each_home_is_an_image(self):
        for blocks in range(1, 13):
            self.assertIsInstance(home(blocks), tuple)
            self.assertIsNone(check_image(home(blocks)))
            self.assertEqual("0" * blocks, look(home(blocks)))


if __name__ == "__main__":
    unittest.main()
