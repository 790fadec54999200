"""Points 57 to 61: the store."""
import unittest

from helpers import BACKWARDS, Case, Slow, slow_apply
from redolots.copylog import copies
from redolots.errors import InvalidImage, InvalidLine, InvalidMost, InvalidRule, NotAllowed, NotPlain, TooMany
from redolots.images import home
from redolots.lots import Lots
from redolots.machines import Lagging, Machine, Workers
from redolots.papers import judge_table
from redolots.plain import plain_run
from redolots.rules import FromMark, FromPoints, FromTop, Late, Rule
from redolots.store import Store
from stores import RULES, answer, do, histories, random_deed, told

OTHER_RULES = [Workers(1), Workers(2), BACKWARDS, Machine(1, (), ()), None, "top", (0,)]
CLEAR = ("clear", 0, -1, "")


def filled(rule, lines, image, *, steps=0, most=20):
    """A store with this batch, at the position behind so many steps."""
    store = Store(image, rule, most=most)
    for line in lines:
        store.put(line)
    for _ in range(steps):
        store.advance()
    return store


class NewTest(Case):
    def test_a_new_store(self):
        for rule in RULES:
            store = Store((5, -1, 7), rule)
            self.assertEqual({"disk": (5, -1, 7), "base": (5, -1, 7), "batch": [], "state": rule.first_state(),
                              "position": 0, "promised": (5, -1, 7), "flushes": 0, "total": 0, "most_pending": 20},
                             told(store))

    def test_example(self):
        store = Store(home(3), FromTop())
        first = store.put(("copy", 2, 0, ""))
        second = store.put(("copy", 0, 1, ""))
        self.assertEqual((False, True, (0, 1, 0), [("copy", 0, 1, "")]), (first, second, store.disk, store.batch))

    def test_at_home(self):
        store = Store.at_home(4, Lagging(2))
        self.assertIs(Store, store.__class__)
        self.assertEqual(((0, 1, 2, 3), (0, 0), 20), (store.disk, store.state, store.most_pending))
        self.assertEqual((0,), Store.at_home(1, Rule()).base)
        for rule in OTHER_RULES:
            self.assertFails(InvalidRule, {}, Store.at_home, 3, rule)

    def test_the_limit(self):
        self.assertEqual(30, Store.LIMIT)

    def test_errors_come_in_order(self):
        for rule in OTHER_RULES:
            self.assertFails(InvalidRule, {}, Store, (5,), rule)
            self.assertFails(InvalidRule, {}, Store, (5,), rule, most=0)
            self.assertFails(InvalidImage, {"block": 0}, Store, (1000,), rule, most=0)
        self.assertFails(InvalidImage, {"block": -1}, Store, [5], FromTop())
        self.assertFails(InvalidMost, {"value": 31}, Store, (5,), FromTop(), most=31)

    def test_lists_are_new(self):
        store = filled(FromTop(), copies((1, 0), (2, 0)), home(3))
        store.batch.clear()
        store.paper().clear()
        self.assertEqual(copies((1, 0), (2, 0)), store.batch)
        self.assertGreater(len(store.paper()), 0)


class PutTest(Case):
    def test_no_flush(self):
        store = Store(home(3), FromTop())
        self.assertIs(False, store.put(("copy", 1, 0, "")))
        self.assertIs(False, store.put(("copy", 2, 1, "")))
        self.assertEqual({"disk": home(3), "base": home(3), "batch": copies((1, 0), (2, 1)), "state": (0,),
                          "position": 0, "promised": (0, 0, 0), "flushes": 0, "total": 2, "most_pending": 20},
                         told(store))

    def test_a_full_batch_is_flushed(self):
        store = filled(FromTop(), copies((1, 0), (2, 0), (1, 0)), home(3), most=3)
        self.assertEqual((3, 0), (len(store.batch), store.flushes))
        self.assertIs(True, store.put(("copy", 2, 0, "")))
        self.assertEqual((copies((2, 0)), 1, 4, (0, 0, 0), (0, 0, 0)),
                         (store.batch, store.flushes, store.total, store.base, store.disk))
        store = Store(home(2), FromTop(), most=1)
        self.assertEqual([False, True, True], [store.put(("copy", 1, 0, "")) for _ in range(3)])

    def test_a_batch_that_would_not_be_safe_is_flushed(self):
        for rule in RULES:
            store = filled(rule, copies((1, 0)), home(3))
            safe = len(Slow(copies((1, 0), (0, 2)), home(3), rule).ends()) == 1
            self.assertIs(not safe, store.put(("copy", 0, 2, "")))
            self.assertEqual(0 if safe else 1, store.flushes)

    def test_whatever_the_disk_is_now(self):
        rule = FromPoints((1,))
        lines = [("move", 1, 0, ""), ("copy", 0, 2, ""), ("copy", 2, 3, "-1--")]
        store = filled(rule, lines[:2], (5, -1, 107, 8), steps=2)
        self.assertEqual((107, 5, 107, 8), store.disk)
        self.assertIs(False, Lots(lines, store.disk, rule).is_safe)
        self.assertIs(False, store.put(lines[2]))

    def test_too_many_places(self):
        fill = [("copy", block, 0, "") for block in range(1, 12)]
        empty = [("clear", block, -1, "") for block in range(1, 12)]
        self.assertIs(True, Lots(fill + empty[:10], home(12), FromMark()).is_safe)
        self.assertFails(TooMany, {"limit": 5000}, Lots, fill + empty, home(12), FromMark())
        store = Store(home(12), FromMark(), most=30)
        self.assertEqual([False] * 21 + [True], [store.put(line) for line in fill + empty])
        self.assertEqual((empty[10:], 1, (0,) + (-1,) * 10 + (0,)), (store.batch, store.flushes, store.disk))
        self.assertEqual((0,) + (-1,) * 11, store.promised)

    def test_an_empty_batch_is_never_flushed(self):
        for rule in RULES:
            store = Store((5, -1), rule, most=1)
            self.assertIs(False, store.put(("move", 1, 0, "")))
            self.assertEqual(1, store.flush())
            self.assertIs(False, store.put(("move", 0, 1, "")))
            self.assertEqual((1, 2), (store.flushes, store.total))

    def test_a_flush_executes_the_lines_from_the_position_on(self):
        store = filled(FromTop(), copies((1, 0), (2, 1)), home(4), steps=1)
        self.assertIs(True, store.put(("copy", 0, 3, "")))
        self.assertEqual(((0, 0, 0, 3), (0, 0, 0, 3), (0,)), (store.disk, store.base, store.state))
        self.assertEqual((3, 0, 0, 3), store.promised)

    def test_the_state_stays(self):
        store = filled(Lagging(5), copies((1, 0), (2, 0)), home(4), steps=2)
        store.crash(1)
        self.assertIs(False, store.put(("copy", 3, 0, "")))
        self.assertEqual(((1, 2), 1, (0, 0, 0, 3)), (store.state, store.position, store.disk))

    def test_wrong_lines(self):
        store = filled(FromTop(), copies((1, 0)), home(2), steps=1)
        before = told(store)
        for line in (None, ("copy", 1, 0), ("copy", 0, 0, ""), ("copy", 2, 0, ""), ("move", 0, 1, "."), ["clear", 0],
                     ("clear", 0, 0, "")):
            self.assertFails(InvalidLine, {"at": 0}, store.put, line)
            self.assertEqual(before, told(store))


class StepsTest(Case):
    def test_advance(self):
        store = filled(FromTop(), [CLEAR, ("copy", 1, 2, "")], home(3))
        self.assertIs(True, store.advance())
        self.assertEqual(((-1, 1, 2), 1, home(3)), (store.disk, store.position, store.base))
        self.assertIs(True, store.advance())
        self.assertEqual(((-1, 2, 2), 2, home(3)), (store.disk, store.position, store.base))
        before = told(store)
        self.assertIs(False, store.advance())
        self.assertEqual(before, told(store))
        self.assertIs(False, Store(home(3), FromTop()).advance())

    def test_a_skipped_line_is_executed_too(self):
        store = filled(FromTop(), [("move", 1, 0, "-.")], (5, 6))
        self.assertIs(True, store.advance())
        self.assertEqual(((5, 6), 1), (store.disk, store.position))

    def test_crash_and_again_with_every_rule(self):
        lines = copies((1, 0), (2, 0), (3, 0))
        for rule in RULES:
            for steps in range(4):
                for number in range(-1, 5):
                    store = filled(rule, lines, (5, 6, 7, 8), steps=steps)
                    self.assertEqual((lines, steps), (store.batch, store.position))
                    before = told(store)
                    ways = rule.steps(store.state, 3)
                    back = [state for line, state in ways if line == -1 and state[0] == number]
                    if back:
                        self.assertIsNone(store.crash(number))
                        self.assertEqual({**before, "state": back[0], "position": number}, told(store))
                    else:
                        self.assertFails(NotAllowed, {"at": number}, store.crash, number)
                        self.assertEqual(before, told(store))
                    store = filled(rule, lines, (5, 6, 7, 8), steps=steps)
                    late = [line for line, state in ways if line == number and state[0] == steps]
                    if late:
                        self.assertIsNone(store.again(number))
                        after = slow_apply(lines[number], before["disk"])
                        self.assertEqual({**before, "disk": after}, told(store))
                    else:
                        self.assertFails(NotAllowed, {"at": number}, store.again, number)
                        self.assertEqual(before, told(store))

    def test_allowed_at_all(self):
        store = filled(FromMark() | Late(), copies((1, 0), (2, 0)), home(3), steps=2)
        store.again(0)
        store.crash(1)
        self.assertFails(NotAllowed, {"at": 1}, store.again, 1)
        self.assertFails(NotAllowed, {"at": 1}, store.crash, 1)
        self.assertFails(NotAllowed, {"at": -1}, store.crash, -1)
        self.assertFails(NotAllowed, {"at": -1}, store.again, -1)
        store.advance()
        self.assertFails(NotAllowed, {"at": 2}, store.crash, 2)

    def test_a_line_that_is_executed_again_changes_the_disk(self):
        # The second line fires in the second round alone.
        lines = [("copy", 1, 0, ""), ("copy", 1, 3, "--*-"), ("copy", 1, 0, ""), ("copy", 2, 3, "")]
        store = filled(FromTop() | Late((0,)), lines, (5, 6, -1, 7), steps=4)
        self.assertEqual((lines, (5, 5, 7, 7)), (store.batch, store.disk))
        store.crash(0)
        store.advance()
        store.advance()
        self.assertEqual((5, 7, 7, 7), store.disk)
        store.again(0)
        self.assertEqual(((5, 5, 7, 7), (2,)), (store.disk, store.state))
        self.assertEqual(2, store.flush())
        self.assertEqual((5, 5, 7, 7), store.disk)

    def test_a_line_that_is_executed_again_changes_nothing_more(self):
        store = filled(Late(), [("copy", 1, 0, ""), ("copy", 3, 2, "")], home(4), steps=2)
        self.assertEqual((0, 0, 2, 2), store.disk)
        store.again(1)
        self.assertEqual(((0, 0, 2, 2), 2), (store.disk, store.position))

    def test_lagging_marks(self):
        store = filled(Lagging(1), copies((1, 0), (2, 0), (3, 0)), home(4), steps=3)
        self.assertFails(NotAllowed, {"at": 1}, store.crash, 1)
        store.crash(2)
        self.assertEqual((2, 3), store.state)
        self.assertFails(NotAllowed, {"at": 1}, store.crash, 1)


class FlushTest(Case):
    def test_with_lines_left(self):
        store = filled(FromTop(), copies((1, 0), (2, 0), (3, 0)), home(4), steps=1)
        self.assertEqual(2, store.flush())
        self.assertEqual({"disk": (0,) * 4, "base": (0,) * 4, "batch": [], "state": (0,), "position": 0,
                          "promised": (0,) * 4, "flushes": 1, "total": 3, "most_pending": 20}, told(store))

    def test_with_none_left(self):
        store = filled(Lagging(3), copies((1, 0)), home(2), steps=1)
        self.assertEqual(0, store.flush())
        self.assertEqual(((0, 0), [], (0, 0), 1), (store.base, store.batch, store.state, store.flushes))

    def test_of_an_empty_batch(self):
        store = Store((5, -1), FromMark())
        before = told(store)
        self.assertEqual(0, store.flush())
        self.assertEqual(before, told(store))
        store.put(CLEAR)
        store.flush()
        before = told(store)
        self.assertEqual(0, store.flush())
        self.assertEqual(before, told(store))


class TearTest(Case):
    LINES = copies((1, 0), (2, 1), (3, 2))

    def test_each_block_has_the_entry_of_its_position(self):
        store = filled(FromTop(), self.LINES, (5, 6, 7, 8), steps=3)
        shown = [(5, 6, 7, 8), (5, 5, 7, 8), (5, 5, 5, 8), (5, 5, 5, 5)]
        self.assertIsNone(store.tear((3, 0, 2, 1)))
        self.assertEqual((shown[3][0], shown[0][1], shown[2][2], shown[1][3]), store.disk)
        self.assertEqual(((0,), 0, self.LINES, 0), (store.state, store.position, store.batch, store.flushes))

    def test_since_the_last_crash(self):
        store = filled(FromTop(), self.LINES, (5, 6, 7, 8), steps=3)
        store.crash(0)
        store.advance()
        store.tear((0, 0, 0, 1))
        self.assertEqual((5, 5, 5, 5), store.disk)

    def test_since_the_last_torn_crash(self):
        store = filled(FromTop(), self.LINES, (5, 6, 7, 8), steps=3)
        store.tear((0, 0, 3, 3))
        self.assertEqual((5, 6, 5, 5), store.disk)
        store.advance()
        store.advance()
        self.assertEqual((5, 5, 5, 5), store.disk)
        store.tear((1, 0, 0, 2))
        self.assertEqual((5, 6, 5, 5), store.disk)

    def test_since_the_last_flush(self):
        store = filled(FromTop(), self.LINES, (5, 6, 7, 8), steps=2)
        store.flush()
        store.put(("copy", 0, 3, ""))
        store.advance()
        store.tear((0, 0, 1, 0))
        self.assertEqual((5, 5, 5, 5), store.disk)
        store = filled(FromTop(), copies((2, 0)), (5, 6, 7))
        store.put(("copy", 0, 1, ""))
        store.advance()
        self.assertEqual((6, 6, 5), store.disk)
        store.tear((0, 1, 1))
        self.assertEqual((5, 6, 5), store.disk)

    def test_a_put_between(self):
        store = filled(FromTop(), self.LINES[:2], (5, 6, 7, 8), steps=2)
        self.assertIs(False, store.put(self.LINES[2]))
        store.advance()
        store.tear((0, 0, 1, 3))
        self.assertEqual((5, 6, 7, 5), store.disk)

    def test_at_position_0(self):
        store = filled(FromTop(), self.LINES, (5, 6, 7, 8))
        before = told(store)
        self.assertIsNone(store.tear((0, 0, 0, 0)))
        self.assertEqual(before, told(store))
        store.advance()
        store.crash(0)
        before = told(store)
        store.tear((0, 0, 0, 0))
        self.assertEqual(before, told(store))
        Store(home(2), FromTop()).tear((0, 0))

    def test_positions_that_are_not_allowed(self):
        store = filled(FromTop(), self.LINES, (5, 6, 7, 8), steps=2)
        before = told(store)
        for positions, entry in (((0, 3, 0, 0), 3), ((0, 1, 2, -1), -1), ((2, 9, -5, 0), 9), ((-7, 9, 0, 0), -7)):
            self.assertFails(NotAllowed, {"at": entry}, store.tear, positions)
            self.assertEqual(before, told(store))
        self.assertFails(NotAllowed, {"at": 1}, Store(home(2), FromTop()).tear, (0, 1))

    def test_errors_come_in_order(self):
        other = [("copy", 2, 3, ""), ("clear", 1, -1, "")]
        for rule in RULES:
            if rule.__class__ is not FromTop:
                store = filled(rule, other, (5, -1, 7, 8))
                self.assertFails(InvalidRule, {}, store.tear, (9, 0, 0, 0))
        store = filled(FromTop(), other, (5, -1, 7, -1))
        self.assertFails(InvalidImage, {"block": 1}, store.tear, (9, 0, 0, 0))
        store = filled(FromTop(), other, (5, 6, 7, 8), steps=1)
        before = told(store)
        self.assertFails(NotPlain, {"at": 1}, store.tear, (9, 0, 0, 0))
        self.assertFails(NotPlain, {"at": 1}, store.tear, (0, 0, 0, 0))
        self.assertEqual(before, told(store))
        store = filled(FromTop(), [("copy", 2, 3, "----")], (5, 6, 7, 8))
        self.assertFails(NotPlain, {"at": 0}, store.tear, (0, 0, 0, 0))

    def test_the_base_may_have_become_empty(self):
        store = filled(FromTop(), [CLEAR], (5, 6))
        store.flush()
        self.assertFails(InvalidImage, {"block": 0}, store.tear, (0, 0))


class HistoryTest(Case):
    """Point 60, for drawn histories."""

    def test_against_the_words(self):
        counted = {}
        for chance, image, rule, plain in histories(601, 40):
            store = Store(image, rule, most=chance.randrange(1, 8))
            lines = []
            flushed = 0
            was_torn = False
            for _ in range(chance.randrange(5, 40)):
                deed = random_deed(chance, store, plain)
                before = told(store)
                done = answer(store, deed)
                if isinstance(done, tuple):
                    self.assertEqual(before, told(store))
                    continue
                changed = (deed[0], before["disk"] != store.disk, was_torn)
                counted[changed] = counted.get(changed, 0) + 1
                if deed[0] == "put":
                    self.check_put(before, deed[1], rule, done)
                    lines.append(deed[1])
                if store.flushes > before["flushes"]:
                    flushed += len(before["batch"])
                    was_torn = False
                was_torn = was_torn or deed[0] == "tear"
                self.check_facts(store, image, lines, flushed, rule, was_torn)
            store.flush()
            self.assertEqual(plain_run(lines[-60:], plain_run(lines[:-60], image)), store.disk)
            self.assertEqual((store.promised, []), (store.disk, store.batch))
        for word in ("put", "advance", "tear", "flush"):
            self.assertGreater(counted[(word, True, False)], 20, counted)
        for word in ("put", "advance", "flush"):
            self.assertGreater(counted[(word, True, True)], 10, counted)
        for word in ("again", "crash", "most"):
            self.assertGreater(counted[(word, False, False)], 10, counted)

    def check_put(self, before, line, rule, flushed):
        batch = before["batch"]
        safe = len(Slow(batch + [line], before["base"], rule).ends()) == 1
        self.assertIs(len(batch) > 0 and (len(batch) >= before["most_pending"] or not safe), flushed)

    def check_facts(self, store, image, lines, flushed, rule, was_torn):
        self.assertEqual((len(lines), lines[flushed:]), (store.total, store.batch))
        self.assertEqual(plain_run(lines[:flushed], image), store.base)
        self.assertEqual(plain_run(lines, image), store.promised)
        slow = Slow(store.batch, store.base, rule)
        self.assertEqual(1, len(slow.ends()))
        if not was_torn:
            self.assertIn((store.state, store.disk), slow.distances)
        elif -1 not in store.base and all(line[0] == "copy" and line[3] == "" for line in store.batch):
            lots = [slow.lot(place, block) for block, _ in enumerate(image)
                    for place in slow.places() if place[0][0] == store.position]
            each = len(lots) // len(image)
            for block, entry in enumerate(store.disk):
                self.assertTrue(any(entry in lot for lot in lots[block * each:(block + 1) * each]))

    def test_papers(self):
        for chance, image, rule, plain in histories(602, 2):
            store = Store(image, rule)
            for _ in range(12):
                answer(store, random_deed(chance, store, plain))
                table = store.paper()
                self.assertEqual(Lots(store.batch, store.base, rule).table(), table)
                self.assertIs(True, judge_table(store.batch, store.base, rule, table))

    def test_later_changes_of_arguments(self):
        deeds = [("put", ("copy", 1, 0, "")), ("advance",), ("put", ("copy", 2, 1, ""))]
        store = Store(home(3), FromTop())
        for deed in deeds:
            do(store, deed)
        batch = store.batch
        batch.append(3)
        self.assertEqual(copies((1, 0), (2, 1)), store.batch)


class MostTest(Case):
    WRONG = (0, -1, 31, 10 ** 30, None, "5", 2.0, (5,))

    def test_at_its_bounds(self):
        for value in (1, 2, 20, 29, 30):
            store = Store(home(2), FromTop(), most=value)
            self.assertEqual(value, store.most_pending)
            store = Store(home(2), FromTop())
            self.assertIsNone(store.change_most(value))
            self.assertEqual(value, store.most_pending)
            store = Store(home(2), FromTop())
            store.most_pending = value
            self.assertEqual(value, store.most_pending)

    def test_beyond_its_bounds(self):
        for value in self.WRONG:
            self.assertFails(InvalidMost, {"value": value}, Store, home(2), FromTop(), most=value)
            store = Store(home(2), FromTop(), most=7)
            self.assertFails(InvalidMost, {"value": value}, store.change_most, value)
            self.assertFails(InvalidMost, {"value": value}, setattr, store, "most_pending", value)
            self.assertEqual(7, store.most_pending)

    def test_a_batch_that_is_longer_than_a_new_bound(self):
        store = filled(FromTop(), copies((1, 0)) * 5, home(2), steps=2)
        store.most_pending = 2
        self.assertEqual((5, 2, 0), (len(store.batch), store.position, store.flushes))
        self.assertIs(True, store.advance())
        self.assertIs(True, store.put(("copy", 1, 0, "")))
        self.assertEqual((1, 1, 6), (len(store.batch), store.flushes, store.total))
        self.assertIs(False, store.put(("copy", 1, 0, "")))
        self.assertIs(True, store.put(("copy", 1, 0, "")))

    def test_thirty_lines(self):
        store = filled(FromPoints((3,)), copies((1, 0)) * 30, home(2), most=30)
        self.assertEqual((30, 0), (len(store.batch), store.flushes))
        self.assertIs(True, store.put(("copy", 1, 0, "")))


if __name__ == "__main__":
    unittest.main()
