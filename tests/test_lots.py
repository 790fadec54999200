"""Points 21 to 24, and the runs of point 22."""
import unittest

from helpers import BACKWARDS, ENDLESS, Case, Slow, many_places, small_cases
from redolots.copylog import copies
from redolots.errors import InvalidImage, InvalidLine, TooMany, UnknownPlace
from redolots.images import home
from redolots.lots import Lots, reachable
from redolots.machines import Lagging, Machine, Workers
from redolots.rules import FromMark, FromPoints, FromTop, Late, Rule
from redolots.runs import is_complete, is_run, play, undisturbed

LOG = copies((1, 0), (2, 1), (1, 3))
MOVES = [("move", 1, 0, "*."), ("clear", 0, -1, ""), ("copy", 0, 1, "")]


class ReachableTest(Case):
    def test_of_a_copy_log(self):
        self.assertEqual([((0,), "0000"), ((1,), "0000"), ((2,), "0000"), ((3,), "0000")],
                         reachable(LOG, home(4), FromMark()))

    def test_a_place_is_a_state_with_a_look(self):
        self.assertEqual([((0,), "0."), ((1,), "0.")], reachable([("clear", 1, -1, "")], (5, -1), FromTop()))
        self.assertEqual([((0,), "0."), ((0,), "00"), ((1,), "00")],
                         reachable([("copy", 1, 0, "")], (5, -1), FromTop()))
        self.assertEqual([((0,), "1."), ((1,), ".1"), ((2,), ".1"), ((3,), "11")],
                         reachable(MOVES, (100, -1), Rule()))

    def test_equal_values_and_kinds(self):
        self.assertEqual([((0,), "01"), ((1,), "11")], reachable([("copy", 0, 1, "")], (5, 100), Rule()))
        self.assertEqual([((0,), "11"), ((1,), "11")], reachable([("copy", 0, 1, "")], (105, 105), Rule()))

    def test_the_empty_script(self):
        self.assertEqual([((0,), "0.")], reachable([], (5, -1), FromTop()))
        self.assertEqual([((0, 0), "0.")], reachable([], (5, -1), Workers(2)))
        self.assertEqual([((0,), "0"), ((1,), "0")], reachable([], (5,), Machine(3, ((0, -1, 1), (1, 0, 2)), ())))

    def test_against_a_slow_search(self):
        for script, image, rule in small_cases(21, 150):
            with self.subTest((script, image, str(rule))):
                self.assertEqual(Slow(script, image, rule).places(), reachable(script, image, rule))

    def test_errors(self):
        self.assertFails(InvalidImage, {"block": 1}, reachable, [3], (0, 1000), Rule())
        self.assertFails(InvalidImage, {"block": -1}, reachable, [], [0], Rule())
        self.assertFails(InvalidLine, {"at": 1}, reachable, [("clear", 0, -1, ""), ("copy", 0, 0, "")], (0, 1), Rule())
        self.assertFails(InvalidLine, {"at": -1}, reachable, tuple(LOG), home(4), Rule())

    def test_many_places(self):
        found = reachable(*many_places(5000))
        self.assertEqual((5000, sorted(set(found))), (len(found), found))
        self.assertFails(TooMany, {"limit": 5000}, reachable, *many_places(5001))

    def test_errors_come_in_order(self):
        script, image, rule = many_places(5001)
        self.assertFails(InvalidImage, {"block": 2}, reachable, script + [3], image[:2] + (-2,) + image[3:], rule)
        self.assertFails(InvalidLine, {"at": 14}, reachable, script + [3], image, rule)

    def test_a_list_is_new(self):
        script = list(LOG)
        reachable(script, home(4), FromMark()).clear()
        self.assertEqual((LOG, 4), (script, len(reachable(script, home(4), FromMark()))))


class PlacesTest(Case):
    def test_against_a_slow_search(self):
        for script, image, rule in small_cases(22, 100):
            with self.subTest((script, image, str(rule))):
                slow, lots = Slow(script, image, rule), Lots(script, image, rule)
                self.assertEqual((slow.places(), slow.end_places()), (lots.places(), lots.end_places()))
                self.assertEqual(len(slow.places()), len(lots))
                for state, view in slow.places():
                    self.assertIs(True, (state, view) in lots)
                    for other in [((state[0] + 70,) + state[1:], view), (state, view + "."), (state, view[1:] + "7"),
                                  (state + (0,), view)]:
                        self.assertIs(other in slow.places(), other in lots)

    def test_ends(self):
        self.assertEqual([((3,), "0000")], Lots(LOG, home(4), FromMark()).end_places())
        self.assertEqual([((2,), "0000"), ((3,), "0000")], Lots(LOG, home(4), BACKWARDS).end_places())
        self.assertEqual([], Lots(LOG, home(4), ENDLESS).end_places())
        self.assertEqual([((0, 3), "0000"), ((1, 3), "0000"), ((2, 3), "0000"), ((3, 3), "0000")],
                         Lots(LOG, home(4), Workers(2)).end_places())

    def test_an_end_state_that_is_not_reachable(self):
        lots = Lots(LOG, home(4), Machine(3, ((0, 0, 1), (2, 1, 0)), (2,)))
        self.assertEqual(([], 2, False), (lots.end_places(), len(lots), ((2,), "0000") in lots))

    def test_the_empty_script(self):
        for rule in (Rule(), FromTop(), FromMark(), FromPoints(()), Late()):
            lots = Lots([], (5, -1), rule)
            self.assertEqual([((0,), "0.")], lots.places())
            self.assertEqual([((0,), "0.")], lots.end_places())
            self.assertEqual((1, (5,), (-1,)), (len(lots), lots.end_lot(0), lots.end_lot(1)))
            self.assertEqual((True, (5, -1)), (lots.is_safe, lots.final))
            self.assertEqual([((0,), "0.", (5, -1))], lots.table())
            self.assertEqual([], lots.run_to(((0,), "0."), 0, 5))

    def test_errors(self):
        self.assertFails(InvalidImage, {"block": 0}, Lots, [3], (-3, 1000), Rule())
        self.assertFails(InvalidImage, {"block": -1}, Lots, [], (), Rule())
        self.assertFails(InvalidLine, {"at": 0}, Lots, [("copy", 0, 2, "")], (0, 1), Rule())
        self.assertFails(InvalidLine, {"at": -1}, Lots, LOG * 21, home(4), Rule())
        self.assertFails(TooMany, {"limit": 5000}, Lots, *many_places(5001))
        script, image, rule = many_places(5001)
        self.assertFails(InvalidImage, {"block": 2}, Lots, script + [3], image[:2] + (-2,) + image[3:], rule)
        self.assertFails(InvalidLine, {"at": 14}, Lots, script + [3], image, rule)

    def test_many_places(self):
        lots = Lots(*many_places(5000))
        self.assertEqual((5000, 5000, []), (len(lots), len(lots.places()), lots.end_places()))

    def test_later_changes_have_no_effect(self):
        script = list(LOG)
        lots = Lots(script, home(4), FromMark())
        told = (lots.places(), lots.end_places(), lots.table(), lots.run_to(((3,), "0000"), 2, 3))
        script.append(("clear", 0, -1, ""))
        script[0] = ("clear", 1, -1, "")
        for found in (lots.places(), lots.end_places(), lots.table(), lots.run_to(((3,), "0000"), 2, 3)):
            found.clear()
        self.assertEqual(told, (lots.places(), lots.end_places(), lots.table(), lots.run_to(((3,), "0000"), 2, 3)))
        self.assertEqual(((0, 3), False, 4), (lots.end_lot(2), lots.is_safe, len(lots)))

    def test_lines_that_are_put_back_one_by_one(self):
        script = list(LOG)
        Lots(script, home(4), Late())
        self.assertEqual(LOG, script)


class LotTest(Case):
    def test_example(self):
        self.assertEqual((0, 3), Lots(copies((1, 0), (2, 1), (1, 3)), home(4), FromMark()).end_lot(2))

    def test_lots_of_the_example(self):
        lots = Lots(LOG, home(4), FromMark())
        told = [[lots.lot(place, block) for block in range(4)] for place in lots.places()]
        self.assertEqual([[(0,), (0, 1, 3), (0, 2, 3), (3,)], [(0,), (0, 3), (0, 2, 3), (3,)],
                          [(0,), (0, 3), (0, 3), (3,)], [(0,), (3,), (0, 3), (3,)]], told)

    def test_the_order_of_values_is_that_of_numbers(self):
        for values in ((900, 185, 100), (900, 100, 185)):
            lots = Lots(copies((0, 1), (0, 2)), values, Late())
            self.assertEqual(((2,), "111"), lots.end_places()[0])
            self.assertEqual((100, 185), lots.lot(((2,), "111"), 0))
            self.assertEqual((100, 185), lots.end_lot(0))
        lots = Lots([("copy", 0, 1, ""), ("copy", 0, 2, ""), ("clear", 0, -1, "")], (5, 10, 9), Late())
        self.assertEqual((-1, 9, 10), lots.end_lot(0))

    def test_an_empty_block(self):
        lots = Lots(MOVES, (5, -1), FromTop())
        self.assertEqual((), lots.lot(((0,), "0."), 1))
        self.assertEqual((5,), lots.lot(((0,), "0."), 0))
        self.assertEqual((), lots.lot(((1,), ".0"), 0))
        self.assertEqual((5,), lots.lot(((1,), ".0"), 1))

    def test_empty_and_full_ends(self):
        clear = [("clear", 0, -1, "*-"), ("copy", 0, 1, ".-")]
        lots = Lots(clear, (5, 6), Late())
        self.assertEqual(((-1, 6), (6,)), (lots.end_lot(0), lots.end_lot(1)))
        self.assertEqual((False, None), (lots.is_safe, lots.final))

    def test_equal_values_are_one(self):
        lots = Lots(copies((0, 1), (0, 2)), (4, 7, 7), Late())
        self.assertEqual(((7,), True, (7, 7, 7)), (lots.end_lot(0), lots.is_safe, lots.final))

    def test_no_end_place(self):
        lots = Lots(LOG, home(4), ENDLESS)
        self.assertEqual([()] * 4, [lots.end_lot(block) for block in range(4)])

    def test_against_a_slow_search(self):
        for script, image, rule in small_cases(23, 150):
            with self.subTest((script, image, str(rule))):
                slow, lots = Slow(script, image, rule), Lots(script, image, rule)
                for block in range(len(image)):
                    self.assertEqual(slow.end_lot(block), lots.end_lot(block))
                    for place in slow.places():
                        self.assertEqual(slow.lot(place, block), lots.lot(place, block))

    def test_unknown_places(self):
        lots = Lots(LOG, home(4), FromMark())
        for place in (((4,), "0000"), ((0,), "000."), ((0,), "0010"), ((0, 0), "0000"), ((-1,), "0000"), ((0,), "")):
            self.assertFails(UnknownPlace, {}, lots.lot, place, 0)
            self.assertFails(UnknownPlace, {}, lots.run_to, place, 0, 0)
            self.assertFails(UnknownPlace, {}, lots.run_to, place, 0, 999)

    def test_long_scripts(self):
        log = copies(*[(at % 11 + 1, at % 11) for at in range(60)])
        lots = Lots(log, home(12), Late())
        self.assertEqual((61, True, (0,) * 12), (len(lots), lots.is_safe, lots.final))
        lots = Lots(log[::-1], home(12), Late())
        self.assertEqual((61, False, (0,), (0, 1, 2)), (len(lots), lots.is_safe, lots.end_lot(0), lots.end_lot(8)))
        self.assertEqual(1891, len(Lots(log, home(12), Lagging(60))))


class SafeTest(Case):
    def told(self, safe, final, lots):
        self.assertIs(safe, lots.is_safe)
        self.assertEqual(final, lots.final)

    def test_of_a_copy_log(self):
        self.told(True, (0, 3, 0, 3), Lots(LOG, home(4), FromTop()))
        self.told(False, None, Lots(LOG, home(4), FromMark()))

    def test_no_complete_run(self):
        self.told(True, None, Lots(LOG, home(4), ENDLESS))
        self.told(True, None, Lots([], (-1,), Machine(1, (), ())))
        self.told(True, None, Lots(LOG, home(4), Machine(3, ((0, 0, 1), (2, 1, 0)), (2,))))

    def test_final_images_with_empty_blocks(self):
        self.told(True, (-1,), Lots([("clear", 0, -1, "")], (3,), FromMark()))
        self.told(True, (-1, 3, 4), Lots([("move", 1, 0, "")], (3, -1, 4), FromMark()))

    def test_another_final_image_than_that_of_the_undisturbed_run(self):
        self.told(True, (1, 1), Lots(copies((1, 0), (0, 1)), (0, 1), Machine(3, ((0, 1, 1), (1, 0, 2)), (2,))))
        self.told(True, (0, 1), Lots(copies((1, 0), (0, 1)), (0, 1), Machine(1, ((0, -1, 0),), (0,))))

    def test_several_final_images_with_the_same_lots_cannot_hide(self):
        swap = [("move", 2, 0, "**."), ("move", 0, 1, ".**"), ("move", 1, 2, "*.*")]
        self.told(True, (2, 1, -1), Lots(swap, (1, 2, -1), Rule()))
        self.told(False, None, Lots(swap, (1, 2, -1), FromTop()))

    def test_against_a_slow_search(self):
        safe = cases = 0
        for script, image, rule in small_cases(24, 250):
            with self.subTest((script, image, str(rule))):
                ends, lots = Slow(script, image, rule).ends(), Lots(script, image, rule)
                self.told(len(ends) < 2, ends[0] if len(ends) == 1 else None, lots)
                safe += lots.is_safe
                cases += 1
        self.assertTrue(300 < safe < cases - 300)

    def test_within(self):
        for script, image, _ in small_cases(25, 20):
            for low, high in ((Rule(), FromTop()), (FromTop(), FromMark()), (FromMark(), Late()),
                              (Lagging(1), Lagging(2)), (Workers(2), Late()), (FromPoints((1,)), FromMark())):
                if Lots(script, image, high).is_safe:
                    self.assertEqual(Lots(script, image, high).final, Lots(script, image, low).final)


class RunToTest(Case):
    def test_of_the_example(self):
        lots = Lots(LOG, home(4), FromMark())
        self.assertEqual([(0, (1,)), (1, (2,)), (2, (3,)), (-1, (1,)), (1, (2,)), (2, (3,))],
                         lots.run_to(((3,), "0000"), 2, 3))
        self.assertEqual(undisturbed(3), lots.run_to(((3,), "0000"), 2, 0))
        self.assertEqual([], lots.run_to(((0,), "0000"), 2, 2))
        self.assertIsNone(lots.run_to(((3,), "0000"), 2, 1))
        self.assertIsNone(lots.run_to(((3,), "0000"), 2, 2))
        self.assertIsNone(lots.run_to(((3,), "0000"), 2, 500))

    def test_back_at_the_first_place(self):
        lots = Lots(LOG, home(4), FromTop())
        self.assertEqual([(0, (1,)), (-1, (0,))], lots.run_to(((0,), "0000"), 1, 0))

    def test_an_empty_block(self):
        lots = Lots(MOVES, (5, -1), FromTop())
        for value in (-1, 5, 0, -2):
            self.assertIsNone(lots.run_to(((0,), "0."), 1, value))
            self.assertIsNone(lots.run_to(((1,), ".0"), 0, value))
        self.assertEqual([(0, (1,))], lots.run_to(((1,), ".0"), 1, 5))

    def test_against_a_slow_search(self):
        for script, image, rule in small_cases(26, 80):
            slow, lots = Slow(script, image, rule), Lots(script, image, rule)
            for place in slow.places():
                for block in range(len(image)):
                    for value in sorted(set(image + (-1, 3, 999))):
                        self.check(script, image, rule, slow, lots, place, block, value)

    def check(self, script, image, rule, slow, lots, place, block, value):
        run = lots.run_to(place, block, value)
        if value not in slow.lot(place, block):
            self.assertIsNone(run)
            return
        self.assertEqual(slow.length_to(place, block, value), len(run))
        self.assertTrue(is_run(rule, run, len(script)))
        self.assertEqual(place[0], run[-1][1] if run else rule.first_state())
        self.assertEqual(value, play(script, image, rule, run)[block])

    def test_complete_runs_to_ends(self):
        lots = Lots(LOG, home(4), Late())
        for place in lots.end_places():
            for block in range(4):
                for value in lots.lot(place, block):
                    run = lots.run_to(place, block, value)
                    self.assertTrue(is_complete(Late(), run, 3))
                    self.assertEqual(value, play(LOG, home(4), Late(), run)[block])


if __name__ == "__main__":
    unittest.main()
