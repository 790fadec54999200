"""Points 61 to 63 for the desk: recorded deeds, undo and redo, and lists of deeds."""
import unittest

from helpers import Case
from redolots.copylog import copies
from redolots.desk import Desk
from redolots.errors import (InvalidDeed, InvalidImage, InvalidLine, InvalidMost, InvalidRule, NotAllowed, NotPlain,
                             NothingToRedo, NothingToUndo)
from redolots.images import home
from redolots.machines import Lagging, Workers
from redolots.rules import FromMark, FromTop, Late, Rule
from redolots.store import Store
from stores import answer, do, histories, random_deed, told

COPY = ("copy", 1, 0, "")
DEEDS = {
    "put": ("put", COPY), "advance": ("advance",), "crash": ("crash", 0), "again": ("again", 0),
    "tear": ("tear", (0, 0, 0)), "flush": ("flush",), "most": ("most", 5),
}


def all_told(desk):
    return {**told(desk), "undoable": desk.undoable, "redoable": desk.redoable}


def desk_with(*deeds, rule=None, blocks=3):
    desk = Desk.at_home(blocks, rule or FromTop())
    for deed in deeds:
        do(desk, deed)
    return desk


class NewTest(Case):
    def test_created_like_a_store(self):
        desk = Desk((5, -1), Lagging(1), most=7)
        self.assertEqual({**told(Store((5, -1), Lagging(1), most=7)), "undoable": 0, "redoable": 0}, all_told(desk))
        self.assertIsInstance(desk, Store)
        desk = Desk.at_home(3, FromTop())
        self.assertEqual((Desk, home(3), 20), (desk.__class__, desk.disk, desk.most_pending))
        self.assertEqual(30, Desk.LIMIT)

    def test_errors_come_in_order(self):
        self.assertFails(InvalidImage, {"block": 0}, Desk, (1000,), Workers(1), most=0)
        self.assertFails(InvalidRule, {}, Desk, (5,), Workers(1), most=0)
        self.assertFails(InvalidMost, {"value": 0}, Desk, (5,), Rule(), most=0)
        self.assertFails(InvalidRule, {}, Desk.at_home, 3, Workers(2))

    def test_all_deeds_are_its_own(self):
        for name in ("put", "advance", "crash", "again", "tear", "flush", "change_most", "undo", "redo", "run_all",
                     "undoable", "redoable"):
            self.assertIn(name, vars(Desk))
        for name in ("at_home", "put", "advance", "crash", "again", "tear", "flush", "change_most", "paper", "disk",
                     "base", "batch", "state", "position", "promised", "flushes", "total", "most_pending"):
            self.assertIn(name, vars(Store))

    def test_its_lists_are_its_own(self):
        first, second = desk_with(DEEDS["put"]), desk_with()
        self.assertEqual((1, 0), (first.undoable, second.undoable))


class RecordTest(Case):
    def test_each_deed_is_one(self):
        rule = FromTop() | Late()
        desk = desk_with(("put", COPY), ("put", ("copy", 2, 0, "")), ("advance",), ("again", 0), ("advance",),
                         ("crash", 0), ("most", 5), ("flush",), rule=rule)
        self.assertEqual((8, 0), (desk.undoable, desk.redoable))
        desk = desk_with(("put", COPY), ("advance",), ("tear", (0, 1, 0)))
        self.assertEqual(3, desk.undoable)

    def test_deeds_that_change_nothing(self):
        desk = desk_with()
        before = told(desk)
        for many, deed in enumerate((("advance",), ("flush",), ("most", 20), ("tear", (0, 0, 0)), ("advance",)), 1):
            do(desk, deed)
            self.assertEqual({**before, "undoable": many, "redoable": 0}, all_told(desk))
        desk.undo()
        self.assertEqual({**before, "undoable": 4, "redoable": 1}, all_told(desk))
        desk.advance()
        self.assertEqual({**before, "undoable": 5, "redoable": 0}, all_told(desk))

    def test_a_put_that_flushes_is_one(self):
        desk = desk_with(("put", COPY), ("put", ("copy", 0, 2, "")))
        self.assertEqual((2, 1), (desk.undoable, desk.flushes))
        desk.undo()
        self.assertEqual((1, 0, [COPY], home(3)), (desk.undoable, desk.flushes, desk.batch, desk.disk))

    def test_an_assignment_of_most_pending_is_one(self):
        desk = desk_with()
        desk.most_pending = 7
        self.assertEqual((7, 1), (desk.most_pending, desk.undoable))
        desk.change_most(8)
        desk.undo()
        self.assertEqual((7, 1, 1), (desk.most_pending, desk.undoable, desk.redoable))
        desk.undo()
        self.assertEqual(20, desk.most_pending)
        for value in (0, 31, None):
            self.assertFails(InvalidMost, {"value": value}, setattr, desk, "most_pending", value)
            self.assertFails(InvalidMost, {"value": value}, desk.change_most, value)
        self.assertEqual((20, 0, 2), (desk.most_pending, desk.undoable, desk.redoable))

    def test_deeds_that_fail_are_not_recorded(self):
        desk = desk_with(("put", COPY), ("advance",), ("advance",))
        desk.undo()
        before = all_told(desk)
        self.assertEqual((2, 1), (desk.undoable, desk.redoable))
        for deed, error, attributes in ((("put", None), InvalidLine, {"at": 0}), (("crash", 1), NotAllowed, {"at": 1}),
                                        (("again", 0), NotAllowed, {"at": 0}), (("most", 0), InvalidMost, {"value": 0}),
                                        (("tear", (0, 2, 0)), NotAllowed, {"at": 2})):
            self.assertFails(error, attributes, do, desk, deed)
            self.assertEqual(before, all_told(desk))
        desk.redo()
        self.assertEqual((3, 0), (desk.undoable, desk.redoable))


class UndoTest(Case):
    def test_several_deeds(self):
        desk = desk_with()
        shown = [all_told(desk)]
        for deed in (("put", COPY), ("advance",), ("put", ("copy", 2, 1, "")), ("flush",), ("most", 3), ("put", COPY)):
            do(desk, deed)
            shown.append(all_told(desk))
        for many in range(1, 7):
            self.assertIsNone(desk.undo())
            self.assertEqual({**shown[6 - many], "redoable": many}, all_told(desk))
        for many in range(1, 7):
            self.assertIsNone(desk.redo())
            self.assertEqual({**shown[many], "redoable": 6 - many}, all_told(desk))

    def test_nothing_to_undo_or_redo(self):
        desk = desk_with()
        self.assertFails(NothingToUndo, {}, desk.undo)
        self.assertFails(NothingToRedo, {}, desk.redo)
        desk.put(COPY)
        self.assertFails(NothingToRedo, {}, desk.redo)
        desk.undo()
        self.assertFails(NothingToUndo, {}, desk.undo)
        desk.redo()
        self.assertFails(NothingToRedo, {}, desk.redo)
        self.assertEqual((1, 0, [COPY]), (desk.undoable, desk.redoable, desk.batch))

    def test_a_new_deed_drops_what_could_be_redone(self):
        for word, deed in DEEDS.items():
            rule = Late() | FromTop() if word == "again" else FromTop()
            desk = desk_with(("put", COPY), ("advance",), ("put", COPY), ("flush",), rule=rule)
            desk.undo()
            desk.undo()
            self.assertEqual((2, 2), (desk.undoable, desk.redoable))
            do(desk, deed)
            self.assertEqual((3, 0), (desk.undoable, desk.redoable))
            self.assertFails(NothingToRedo, {}, desk.redo)

    def test_a_torn_crash_behind_an_undo(self):
        lines = [("put", line) for line in copies((1, 0), (2, 1))]
        desk = desk_with(*lines, ("advance",), ("advance",), ("crash", 0), ("advance",))
        desk.undo()
        desk.undo()
        # Without the crash the positions 0 to 2 are those of the first round.
        desk.tear((0, 0, 2))
        self.assertEqual((0, 1, 0), desk.disk)
        desk.undo()
        desk.redo()
        self.assertEqual((0, 1, 0), desk.disk)
        desk.undo()
        desk.tear((0, 2, 0))
        self.assertEqual((0, 0, 2), desk.disk)

    def test_torn_crashes_behind_undone_deeds_of_each_kind(self):
        for deed in (("crash", 0), ("tear", (0, 0, 1)), ("flush",), ("put", ("copy", 0, 2, "")), ("advance",),
                     ("most", 1)):
            desk = desk_with(*[("put", line) for line in copies((1, 0), (2, 1))], ("advance",), ("advance",))
            do(desk, deed)
            desk.undo()
            desk.tear((0, 0, 2))
            self.assertEqual(((0, 1, 0), (0,)), (desk.disk, desk.state))

    def test_drawn_histories(self):
        for chance, image, rule, plain in histories(621, 6):
            desk = Desk(image, rule, most=4)
            done, undone = [], []
            for _ in range(30):
                if chance.random() < 0.3:
                    self.move(chance.choice(["undo", "redo"]), desk, done, undone)
                else:
                    deed = random_deed(chance, desk, plain)
                    same = self.again(image, rule, done)
                    self.assertEqual(answer(same, deed), answer(desk, deed))
                    if not isinstance(answer(self.again(image, rule, done), deed), tuple):
                        done.append(deed)
                        undone.clear()
                same = self.again(image, rule, done)
                self.assertEqual({**told(same), "undoable": len(done), "redoable": len(undone)}, all_told(desk))
                self.assertEqual(same.paper(), desk.paper())

    def move(self, word, desk, done, undone):
        source, goal = (done, undone) if word == "undo" else (undone, done)
        if source:
            self.assertIsNone(getattr(desk, word)())
            goal.append(source.pop())
        else:
            self.assertFails(NothingToUndo if word == "undo" else NothingToRedo, {}, getattr(desk, word))

    def again(self, image, rule, deeds):
        """A store that has done only these deeds."""
        store = Store(image, rule, most=4)
        for deed in deeds:
            do(store, deed)
        return store


class ListTest(Case):
    def test_example(self):
        desk = Desk.at_home(2, FromTop())
        done = desk.run_all([("put", ("copy", 1, 0, "")), ("advance",), ("crash", 0)])
        self.assertEqual(([False, True, None], (0, 0), 0, 1), (done, desk.disk, desk.position, desk.undoable))

    def test_every_word(self):
        desk = Desk.at_home(3, FromTop())
        self.assertEqual([False, None, True, None, True, True, False, 2, 0, None],
                         desk.run_all([("put", COPY), ("tear", (0, 0, 0)), ("advance",), ("crash", 0), ("advance",),
                                       ("put", ("copy", 0, 2, "")), ("put", ("copy", 0, 2, "")), ("flush",), ("flush",),
                                       ("most", 9)]))
        desk = Desk.at_home(3, FromTop() | Late())
        deeds = [("put", COPY), ("advance",), ("again", 0), ("crash", 0), ("flush",), ("flush",), ("most", 2),
                 ("put", COPY), ("put", COPY), ("put", COPY), ("advance",), ("advance",)]
        self.assertEqual([False, True, None, None, 1, 0, None, False, False, True, True, False], desk.run_all(deeds))
        self.assertEqual((1, 0, 2, 2, 4), (desk.undoable, desk.redoable, desk.most_pending, desk.flushes, desk.total))

    def test_as_the_deeds_one_by_one(self):
        for chance, image, rule, plain in histories(631, 6):
            desk, store = Desk(image, rule, most=4), Store(image, rule, most=4)
            for many in range(1, 6):
                deeds, answers = [], []
                for _ in range(8):
                    deed = random_deed(chance, store, plain)
                    done = answer(store, deed)
                    if not isinstance(done, tuple):
                        deeds.append(deed)
                        answers.append(done)
                before = all_told(desk)
                self.assertEqual(answers, desk.run_all(deeds))
                self.assertEqual(told(store), told(desk))
                if deeds:
                    desk.undo()
                    self.assertEqual({**before, "redoable": 1}, all_told(desk))
                    desk.redo()
                    self.assertEqual({**told(store), "undoable": before["undoable"] + 1, "redoable": 0}, all_told(desk))

    def desk_in_the_middle(self):
        desk = desk_with(("put", COPY), ("put", ("copy", 2, 0, "")), ("advance",), ("advance",))
        desk.undo()
        self.assertEqual((3, 1), (desk.undoable, desk.redoable))
        return desk

    def test_an_error_in_the_middle(self):
        many = [("advance",), ("most", 3), ("put", COPY), ("crash", 0), ("advance",), ("flush",)]
        wrong = [(("put", ("copy", 0, 0, "")), InvalidLine, {"at": 0}), (("put", 5), InvalidLine, {"at": 0}),
                 (("crash", 5), NotAllowed, {"at": 5}), (("again", 0), NotAllowed, {"at": 0}),
                 (("tear", (9, 0, 0)), NotAllowed, {"at": 9}), (("most", 31), InvalidMost, {"value": 31})]
        for at in range(len(many) + 1):
            for deed, error, attributes in wrong + [(5, InvalidDeed, {"at": at})]:
                desk = self.desk_in_the_middle()
                before = all_told(desk)
                self.assertFails(error, attributes, desk.run_all, many[:at] + [deed] + many[at:])
                self.assertEqual(before, all_told(desk))
                desk.redo()
                desk.tear((0, 1, 2))
                self.assertEqual((0, 0, 0), desk.disk)

    def test_errors_of_other_kinds(self):
        desk = Desk((5, 6, -1), FromTop())
        self.assertFails(InvalidImage, {"block": 2}, desk.run_all, [("put", COPY), ("tear", (0, 0, 0))])
        desk = Desk((5, 6), FromTop())
        self.assertFails(NotPlain, {"at": 1}, desk.run_all, [("put", COPY), ("put", ("clear", 0, -1, "")),
                                                            ("tear", (0, 0))])
        desk = Desk((5, 6), Rule())
        self.assertFails(InvalidRule, {}, desk.run_all, [("put", COPY), ("tear", (0, 0))])
        self.assertEqual((0, []), (desk.undoable, desk.batch))

    def test_wrong_items(self):
        items = [None, 5, "advance", "put", "", [], ["advance"], ["put", COPY], (), ("put",), ("put", COPY, COPY),
                 ("advance", 0), ("crash",), ("crash", 0, 0), ("again",), ("again", 0, 1), ("tear",),
                 ("tear", (0, 0, 0), 0), ("tear", 0, 0, 0), ("flush", 0), ("most",), ("most", 5, 5), ("undo",), ("redo",),
                 ("Put", COPY), ("change_most", 5), ("run_all", []), (None,), (("put", COPY),), (5, 0), ((),), ([], COPY),
                 {"put": COPY}, {"advance"}, b"put"]
        for item in items:
            with self.subTest(item):
                for at in range(3):
                    desk = self.desk_in_the_middle()
                    before = all_told(desk)
                    deeds = [("advance",), ("crash", 0)][:at] + [item, ("flush",), None]
                    self.assertFails(InvalidDeed, {"at": at}, desk.run_all, deeds)
                    self.assertEqual(before, all_told(desk))

    def test_a_wrong_item_counts_when_its_turn_comes(self):
        desk = Desk.at_home(3, FromTop())
        self.assertFails(NotAllowed, {"at": 1}, desk.run_all, [("put", COPY), ("crash", 1), None])
        self.assertFails(InvalidLine, {"at": 0}, desk.run_all, [("advance",), ("put", None), ()])
        self.assertFails(InvalidDeed, {"at": 1}, desk.run_all, [("advance",), (), ("put", None)])

    def test_the_empty_list(self):
        desk = self.desk_in_the_middle()
        before = all_told(desk)
        self.assertEqual([], desk.run_all([]))
        self.assertEqual(before, all_told(desk))
        desk.redo()
        self.assertEqual(0, desk.redoable)

    def test_one_undo_takes_back_the_whole_list(self):
        desk = self.desk_in_the_middle()
        before = all_told(desk)
        self.assertEqual([True, None, 2, None], desk.run_all([("advance",), ("crash", 0), ("flush",), ("most", 4)]))
        after = all_told(desk)
        self.assertEqual((4, 0), (desk.undoable, desk.redoable))
        desk.undo()
        self.assertEqual({**before, "redoable": 1}, all_told(desk))
        desk.tear((0, 1, 0))
        self.assertEqual((0, 0, 2), desk.disk)
        desk.undo()
        desk.run_all([("advance",), ("crash", 0), ("flush",), ("most", 4)])
        self.assertEqual(after, all_told(desk))

    def test_a_list_that_changes_nothing_is_a_deed(self):
        desk = desk_with()
        self.assertEqual([0], desk.run_all([("flush",)]))
        self.assertEqual(1, desk.undoable)

    def test_the_list_is_not_changed(self):
        deeds = [("put", COPY), ("advance",)]
        desk = Desk.at_home(2, FromMark())
        desk.run_all(deeds).clear()
        self.assertEqual([("put", COPY), ("advance",)], deeds)
        deeds.clear()
        desk.undo()
        desk.redo()
        self.assertEqual(([COPY], 1), (desk.batch, desk.position))


if __name__ == "__main__":
    unittest.main()
