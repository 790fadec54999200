"""Points 25 to 28: tables, pairs of runs, verdicts and the shortest wrong run."""
import random
import unittest

from helpers import BACKWARDS, ENDLESS, Case, Slow, many_places, slow_apply, slow_look, small_cases
from redolots.copylog import copies
from redolots.errors import InvalidImage, InvalidLine, TooMany
from redolots.images import EMPTY, FREE, home
from redolots.lines import sources
from redolots.lots import Lots
from redolots.machines import Lagging, Machine, Workers
from redolots.papers import judge_runs, judge_table, verdict, wrong_run
from redolots.plain import plain_run
from redolots.rules import FromMark, FromTop, Late, Rule
from redolots.runs import is_complete, play, undisturbed

LOG = copies((1, 0), (2, 1), (1, 3))
MARKED = [(0, (1,)), (1, (2,)), (2, (3,)), (-1, (1,)), (1, (2,)), (2, (3,))]
TABLE = [((0,), "0000", (0, FREE, FREE, 3)), ((1,), "0000", (0, 0, FREE, 3)), ((2,), "0000", (0, 0, 0, 3)),
         ((3,), "0000", (0, 3, 0, 3))]
MOVES = [("move", 1, 0, "*."), ("clear", 0, -1, ""), ("copy", 0, 1, "")]


def slow_judge(script, image, rule, table):
    """Point 25, written out once more."""
    places = [(state, view) for state, view, _ in table]
    if len(places) != len(set(places)):
        return False
    for _, view, held in table:
        for entry, sign in zip(held, view):
            if (sign == ".") != (entry == EMPTY):
                return False
    first = (rule.first_state(), slow_look(image))
    if first not in places:
        return False
    for entry, value in zip(table[places.index(first)][2], image):
        if entry not in (FREE, value):
            return False
    for state, view, held in table:
        for line, after in rule.steps(state, len(script)):
            origins = [-1 if sign == "." else block for block, sign in enumerate(view)]
            seen = view
            if line != -1:
                origins = sources(script[line], view)
                values = tuple(-1 if sign == "." else 100 * int(sign) for sign in view)
                seen = slow_look(slow_apply(script[line], values))
            if (after, seen) not in places:
                return False
            for entry, origin in zip(table[places.index((after, seen))][2], origins):
                if entry not in (FREE, EMPTY) and entry != held[origin]:
                    return False
    ends = [held for state, _, held in table if rule.is_end(state, len(script))]
    return len(set(ends)) < 2 and all(FREE not in held for held in ends)


class TableTest(Case):
    def told(self, answer, table, script=LOG, image=home(4), rule=FromTop()):
        kept = list(table)
        self.assertIs(answer, judge_table(script, image, rule, table))
        self.assertEqual(kept, table)
        self.assertIs(answer, slow_judge(script, image, rule, table))

    def test_of_a_copy_log(self):
        self.assertEqual(TABLE, Lots(LOG, home(4), FromTop()).table())
        self.told(True, TABLE)
        self.told(True, TABLE[::-1])

    def test_of_a_script_with_empty_blocks(self):
        told = [((0,), "1.", (150, -1)), ((1,), ".1", (-1, 150)), ((2,), ".1", (-1, 150)), ((3,), "11", (150, 150))]
        self.assertEqual(told, Lots(MOVES, (150, -1), Rule()).table())
        self.told(True, told, MOVES, (150, -1), Rule())

    def test_rows_are_ascending_by_state_and_look(self):
        told = [((0,), "0.", (4, -1)), ((0,), "00", (4, 4)), ((1,), "00", (4, 4))]
        self.assertEqual(told, Lots([("copy", 1, 0, "")], (4, -1), FromTop()).table())

    def test_a_row_left_out(self):
        for at in range(4):
            self.told(False, TABLE[:at] + TABLE[at + 1:])
        self.told(False, [])

    def test_a_row_twice(self):
        for row in TABLE:
            self.told(False, TABLE + [row])
            self.told(False, [row] + TABLE)
        self.told(False, TABLE + [((0,), "0000", (0, FREE, 2, 3))])
        self.told(False, [((1,), "0000", (0, FREE, FREE, 3))] + TABLE)

    def changed(self, at, block, entry):
        state, view, held = TABLE[at]
        return TABLE[:at] + [(state, view, held[:block] + (entry,) + held[block + 1:])] + TABLE[at + 1:]

    def test_an_entry_changed(self):
        for at in range(4):
            for block in range(4):
                for entry in (500, 1, EMPTY):
                    if (at, block, entry) != (0, 1, 1):
                        self.told(False, self.changed(at, block, entry))
        # Block 1 holds another number at first, and the restarts put other numbers there.
        self.told(False, self.changed(0, 1, 1))
        for at, block in ((0, 0), (0, 3), (1, 0), (1, 1), (1, 3), (2, 2), (2, 3), (3, 0), (3, 1), (3, 2), (3, 3)):
            self.told(False, self.changed(at, block, FREE))
        self.told(True, self.changed(2, 1, FREE))

    def test_values_of_the_first_place(self):
        once = [((0,), "0000", home(4)), ((1,), "0000", (0, 0, 2, 3)), ((2,), "0000", (0, 0, 0, 3)),
                ((3,), "0000", (0, 3, 0, 3))]
        self.told(True, once, rule=Rule())
        self.told(False, once, rule=FromTop())
        self.told(False, once, image=(0, 1, 9, 3), rule=Rule())
        self.told(False, once, image=(0, 9, 2, 3), rule=Rule())
        self.told(True, [((0,), "0000", (0, FREE, FREE, 3)), ((1,), "0000", (0, 0, FREE, 3))] + once[2:], rule=Rule())

    def test_free_is_enough_for_a_value(self):
        self.told(True, [((0,), "0", (FREE,)), ((1,), ".", (-1,))], [("clear", 0, -1, "")], (5,), Rule())
        self.told(False, [((0,), "0", (FREE,))], [], (5,), Rule())
        self.told(True, [((0,), "0", (5,))], [], (5,), Rule())
        self.told(False, [((0,), "0", (FREE,)), ((1,), "00", (5,))], [], (5,), Machine(2, ((0, -1, 1),), (1,)))
        self.told(False, [((0,), "0", (FREE,)), ((1,), "0", (5,))], [], (5,), Machine(2, ((0, -1, 1),), (1,)))

    def test_empty_entries(self):
        line = [("clear", 0, -1, "")]
        self.told(True, [((0,), "0", (5,)), ((1,), ".", (-1,))], line, (5,), Rule())
        self.told(False, [((0,), "0", (5,)), ((1,), ".", (FREE,))], line, (5,), Rule())
        self.told(False, [((0,), "0", (5,)), ((1,), ".", (5,))], line, (5,), Rule())
        self.told(False, [((0,), "0", (-1,)), ((1,), ".", (-1,))], line, (5,), Rule())
        self.told(False, [((0,), ".", (-1,)), ((1,), ".", (-1,))], line, (5,), Rule())

    def test_end_rows(self):
        workers = Lots(copies((1, 0)), home(2), Workers(2)).table()
        self.told(True, workers, copies((1, 0)), home(2), Workers(2))
        both_end = Machine(2, ((0, 0, 1),), (0, 1))
        self.told(False, [((0,), "00", (5, 6)), ((1,), "00", (5, 5))], copies((1, 0)), (5, 6), both_end)
        self.told(True, [((0,), "00", (5, 5)), ((1,), "00", (5, 5))], copies((1, 0)), (5, 5), both_end)
        self.told(False, [((0,), "00", (5, FREE)), ((1,), "00", (5, FREE))], copies((1, 0)), (5, 5), both_end)
        self.told(True, [((0,), "00", (5, FREE)), ((1,), "00", (5, 5))], copies((1, 0)), (5, 6), Rule())

    def test_without_end_rows(self):
        endless = Machine(2, ((0, 0, 1), (1, 0, 0)), ())
        self.told(True, [((0,), "00", (FREE, FREE)), ((1,), "00", (FREE, FREE))], copies((1, 0)), (5, 6), endless)
        self.told(True, [((0,), "00", (5, FREE)), ((1,), "00", (FREE, FREE))], copies((1, 0)), (5, 6), Machine(
            2, ((0, 0, 1),), ()))

    def test_rows_that_are_not_reachable(self):
        table = [((0,), "0", (5,)), ((1,), "0", (5,))]
        back = Machine(3, ((0, -1, 1), (2, -1, 1)), (1,))
        self.told(True, table, [], (5,), back)
        self.told(True, table + [((2,), "0", (5,))], [], (5,), back)
        self.told(False, table + [((2,), "0", (6,))], [], (5,), back)
        self.told(False, table + [((2,), "0", (FREE,))], [], (5,), back)
        self.told(False, table + [((2,), "1", (5,))], [], (5,), back)
        self.told(True, table + [((2,), "1", (5,)), ((1,), "1", (5,))], [], (5,), back)
        self.told(True, TABLE + [((3,), "1111", (0, 3, 0, 3)), ((0,), "1111", (0, FREE, FREE, 3)),
                                 ((1,), "1111", (0, 0, FREE, 3)), ((2,), "1111", (0, 0, 0, 3))])
        self.told(False, TABLE + [((3,), "1111", (9, 3, 0, 3)), ((0,), "1111", (9, FREE, FREE, 3)),
                                  ((1,), "1111", (9, 9, FREE, 3)), ((2,), "1111", (9, 9, 9, 3))])

    def test_kinds_are_not_compared_with_the_look(self):
        other = [((0,), "7", (5,)), ((1,), "7", (5,))]
        loop = Machine(2, ((0, -1, 0), (1, -1, 1)), (1,))
        self.told(True, [((0,), "0", (5,)), ((1,), "7", (5,)), ((1,), "0", (5,))], [], (5,), loop)
        self.told(False, other, [], (5,), loop)

    def test_rows_that_are_not_reachable_have_ends_alike(self):
        loop = Machine(2, ((0, -1, 0),), (1,))
        self.told(True, [((0,), "0", (5,)), ((1,), "0", (5,)), ((1,), "1", (5,))], [], (5,), loop)
        self.told(False, [((0,), "0", (5,)), ((1,), "0", (5,)), ((1,), "1", (105,))], [], (5,), loop)
        self.told(False, [((0,), "0", (5,)), ((1,), "0", (FREE,))], [], (5,), loop)

    def test_tables_of_lots(self):
        told = [0, 0]
        for script, image, rule in small_cases(31, 120):
            with self.subTest((script, image, str(rule))):
                lots = Lots(script, image, rule)
                self.assertIs(lots.is_safe, judge_table(script, image, rule, lots.table()))
                told[lots.is_safe] += 1
        self.assertTrue(min(told) > 100)

    def test_changed_tables(self):
        chance = random.Random(32)
        told = [0, 0]
        for script, image, rule in small_cases(33, 60):
            table = Lots(script, image, rule).table()
            for _ in range(6):
                changed = list(table)
                for _ in range(chance.choice([1, 1, 2, 5])):
                    at = chance.randrange(len(changed))
                    state, view, held = changed[at]
                    block = chance.randrange(len(image))
                    entry = chance.choice([FREE, FREE, EMPTY, 7, chance.choice(image)])
                    changed[at] = (state, view, held[:block] + (entry,) + held[block + 1:])
                answer = judge_table(script, image, rule, changed)
                self.assertIs(slow_judge(script, image, rule, changed), answer)
                told[answer] += 1
                if answer:
                    self.assertIs(True, Lots(script, image, rule).is_safe)
        self.assertTrue(min(told) > 100)

    def test_what_a_table_shows(self):
        for script, image, rule in small_cases(34, 50):
            lots = Lots(script, image, rule)
            if lots.is_safe:
                told = {held for state, _, held in lots.table() if rule.is_end(state, len(script))}
                self.assertEqual({lots.final} - {None}, told)

    def test_rows_of_lots(self):
        for script, image, rule in small_cases(35, 50):
            slow = Slow(script, image, rule)
            rows = []
            for place in slow.places():
                lots = [slow.lot(place, block) for block in range(len(image))]
                rows.append(place + (tuple(EMPTY if not lot else lot[0] if len(lot) == 1 else FREE for lot in lots),))
            self.assertEqual(rows, Lots(script, image, rule).table())

    def test_errors(self):
        self.assertFails(InvalidImage, {"block": 0}, judge_table, [3], (-2,), Rule(), [])
        self.assertFails(InvalidLine, {"at": 0}, judge_table, [3], (-1,), Rule(), [])
        self.assertFails(InvalidLine, {"at": -1}, judge_table, (), (-1,), Rule(), [])


class RunsTest(Case):
    def told(self, answer, first, second, rule=FromMark(), script=LOG, image=home(4)):
        self.assertIs(answer, judge_runs(script, image, rule, first, second))
        self.assertIs(answer, judge_runs(script, image, rule, second, first))

    def test_two_good_runs(self):
        self.told(True, undisturbed(3), MARKED)

    def test_the_same_final_image(self):
        self.told(False, undisturbed(3), undisturbed(3))
        self.told(False, MARKED, MARKED)
        self.told(False, undisturbed(3), undisturbed(3) + [(-1, (2,)), (2, (3,))])

    def test_not_complete(self):
        self.told(False, undisturbed(3), undisturbed(2))
        self.told(False, MARKED[:-1], undisturbed(3))
        self.told(False, [], undisturbed(3))

    def test_a_step_that_is_not_possible(self):
        self.told(False, undisturbed(3), MARKED, FromTop())
        self.told(False, undisturbed(3), [(0, (1,)), (2, (3,))])
        self.told(False, undisturbed(3), undisturbed(3) + [(0, (3,))])
        self.told(True, undisturbed(3), undisturbed(3) + [(0, (3,))], Late())

    def test_a_line_that_the_script_does_not_have(self):
        self.told(False, undisturbed(3), undisturbed(4))
        self.told(False, undisturbed(3), undisturbed(3) + [(7, (3,))], Late())
        rule = Machine(2, ((0, 0, 0), (0, 3, 1), (0, 2, 1), (1, 0, 1)), (1,))
        self.told(False, [(0, (0,)), (2, (1,))], [(3, (1,))], rule)
        self.told(True, [(0, (0,)), (2, (1,))], [(2, (1,)), (0, (1,))], rule)
        self.told(False, [(-2, (1,))], undisturbed(3))

    def test_steps_of_another_kind(self):
        for step in (None, (), (0,), 0, "step", (0, 1, 2), (0, None)):
            self.told(False, undisturbed(3), [step])

    def test_empty_runs(self):
        self.told(False, [], [], Rule(), [])
        twice = Machine(2, ((0, 0, 1),), (0, 1))
        self.told(True, [], [(0, (1,))], twice)

    def test_errors(self):
        self.assertFails(InvalidImage, {"block": 0}, judge_runs, [3], (-2,), Rule(), [], [])
        self.assertFails(InvalidLine, {"at": 0}, judge_runs, [3], (-1,), Rule(), [], [])


class VerdictTest(Case):
    def test_safe(self):
        self.assertEqual(("safe", (0, 3, 0, 3), TABLE), verdict(LOG, home(4), FromTop()))

    def test_safe_without_a_final_image(self):
        word, final, table = verdict(LOG, home(4), ENDLESS)
        self.assertEqual(("safe", None), (word, final))
        self.assertIs(True, judge_table(LOG, home(4), ENDLESS, table))

    def test_unsafe(self):
        word, first, second = verdict(LOG, home(4), FromMark())
        self.assertEqual("unsafe", word)
        self.assertIs(True, judge_runs(LOG, home(4), FromMark(), first, second))

    def test_a_block_that_may_be_empty(self):
        for script, image in (([("clear", 0, -1, "*-"), ("copy", 0, 1, ".-")], (5, 6)),
                              ([("clear", 0, -1, "*"), ("clear", 0, -1, "")], (5,)),
                              ([("move", 1, 0, "*."), ("clear", 1, -1, ".*")], (5, -1)),
                              ([("clear", 1, -1, "*-"), ("clear", 0, -1, "")], (5, 5))):
            for rule in (Late(), FromTop(), FromMark(), Machine(2, ((0, 0, 1), (1, 1, 0)), (0, 1))):
                with self.subTest((script, str(rule))):
                    told = verdict(script, image, rule)
                    ends = Slow(script, image, rule).ends()
                    self.assertEqual("safe" if len(ends) < 2 else "unsafe", told[0])
                    if told[0] == "unsafe":
                        self.assertIs(True, judge_runs(script, image, rule, told[1], told[2]))

    def test_all_rules(self):
        words = []
        for script, image, rule in small_cases(36, 120):
            with self.subTest((script, image, str(rule))):
                told = verdict(script, image, rule)
                self.assertEqual((tuple, 3), (told.__class__, len(told)))
                ends = Slow(script, image, rule).ends()
                words.append(told[0])
                if told[0] == "safe":
                    self.assertEqual(ends, [told[1]] if told[1] is not None else [])
                    self.assertEqual(Lots(script, image, rule).table(), told[2])
                    self.assertIs(True, judge_table(script, image, rule, told[2]))
                else:
                    self.assertTrue(len(ends) > 1)
                    self.assertIs(True, judge_runs(script, image, rule, told[1], told[2]))
        self.assertTrue(words.count("safe") > 100 and words.count("unsafe") > 100)

    def test_errors(self):
        script, image, rule = many_places(5001)
        for call in (verdict, wrong_run):
            self.assertFails(InvalidImage, {"block": 2}, call, [3], image[:2] + (-2,) + image[3:], rule)
            self.assertFails(InvalidLine, {"at": 14}, call, script + [3], image, rule)
            self.assertFails(TooMany, {"limit": 5000}, call, script, image, rule)

    def test_many_places(self):
        word, final, table = verdict(*many_places(5000))
        self.assertEqual(("safe", None, 5000), (word, final, len(table)))


class WrongRunTest(Case):
    def test_example(self):
        self.assertEqual(MARKED, wrong_run(copies((1, 0), (2, 1), (1, 3)), home(4), FromMark()))

    def test_none(self):
        self.assertIsNone(wrong_run(LOG, home(4), FromTop()))
        self.assertIsNone(wrong_run([], home(4), Late()))
        self.assertIsNone(wrong_run(LOG, home(4), ENDLESS))
        self.assertIsNone(wrong_run(*many_places(5000)))

    def test_a_script_that_is_safe_and_always_wrong(self):
        log = copies((1, 0), (0, 1))
        rule = Machine(3, ((0, 1, 1), (1, 0, 2)), (2,))
        self.assertEqual(("safe", (1, 1)), verdict(log, home(2), rule)[:2])
        self.assertEqual([(1, (1,)), (0, (2,))], wrong_run(log, home(2), rule))
        self.assertEqual([], wrong_run(log, home(2), Machine(1, (), (0,))))

    def test_a_shorter_run_than_the_undisturbed_one(self):
        rule = Machine(4, ((0, 0, 1), (1, 1, 2), (2, 2, 3), (0, -1, 3)), (3,))
        self.assertEqual([(-1, (3,))], wrong_run(LOG, home(4), rule))
        self.assertIsNone(wrong_run(copies((1, 0), (1, 2), (1, 0)), (5, 5, 6), rule))

    def test_restarts_are_counted(self):
        edges = ((0, -1, 1), (1, -1, 2), (2, 0, 3), (0, 0, 4), (4, 1, 5), (5, 2, 3), (0, 1, 6), (6, 2, 3))
        self.assertEqual([(1, (6,)), (2, (3,))], wrong_run(LOG, home(4), Machine(7, edges, (3,))))
        self.assertEqual([(-1, (1,)), (-1, (2,)), (0, (3,))],
                         wrong_run(LOG, home(4), Machine(7, edges[:-2], (3,))))

    def test_other_looks_are_wrong(self):
        rule = Machine(2, ((0, 0, 1), (0, 1, 1)), (1,))
        clear = [("clear", 0, -1, ""), ("clear", 1, -1, "")]
        self.assertEqual(1, len(wrong_run(clear, (5, 6), rule)))
        self.assertIsNone(wrong_run(clear, (-1, -1), rule))
        self.assertEqual([(0, (1,))], wrong_run([("copy", 1, 0, ""), ("copy", 1, 0, ".-"), ("clear", 1, -1, "")],
                                                (5, -1), Machine(2, ((0, 0, 1), (0, 2, 1)), (1,))))
        self.assertEqual([(0, (1,))], wrong_run([("copy", 0, 1, ""), ("copy", 0, 2, "")], (5, 6, 106),
                                                Machine(2, ((0, 0, 1), (0, 1, 1)), (1,))))

    def test_against_a_slow_search(self):
        found = []
        for script, image, rule in small_cases(37, 150):
            with self.subTest((script, image, str(rule))):
                right = plain_run(script, image)
                length = Slow(script, image, rule).wrong_length(right)
                run = wrong_run(script, image, rule)
                self.assertEqual(length, None if run is None else len(run))
                if run is not None:
                    self.assertTrue(is_complete(rule, run, len(script)))
                    self.assertNotEqual(right, play(script, image, rule, run))
                    found.append(len(run))
        self.assertTrue(len(found) > 200 and max(found) > 6)

    def test_backwards(self):
        self.assertEqual(Slow(LOG, home(4), BACKWARDS).wrong_length((0, 3, 0, 3)),
                         len(wrong_run(LOG, home(4), BACKWARDS)))
        self.assertEqual(None, wrong_run(LOG, home(4), Lagging(0)))


if __name__ == "__main__":
    unittest.main()
