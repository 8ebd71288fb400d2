"""Points 2 and 25: a hand that does deeds, undoes them and does them again."""

import inspect
import random
import unittest
from unittest import mock

from helper import REELS, all_deeds, clip, copied, gap, mix, nest, outcome, random_table, table_of
from reelcut import hand
from reelcut.backs import back_of
from reelcut.deeds import deed_done
from reelcut.errors import Mixed, NoClip, NoOrder, NoPlace, Short
from reelcut.hand import Hand

SKY = clip(2, 3, 1, "sky")
ROW = (
    ("lay_in", 0, 2, SKY), ("cut", 0, 6), ("mix", 0, 6, 1), ("open", 1, 3, 2), ("unmix", 0, 8), ("heal", 0, 8), ("close", 0, 1, 4),
    ("lift", 0, 2, 3), ("lay_over", 1, 4, nest(3, 3)), ("slip", 0, 0, 1),
)


def made():
    return table_of([clip(20, 9), clip(40, 4)], [nest(0, 6), SKY], [SKY], tied=[0, 1])


def tables_of_row(row):
    """The table ahead of each deed of the row, and the one behind the last."""
    tables = [made()]
    for deed in row:
        tables.append(deed_done(tables[-1], deed, REELS))
    return tables


class TestInterface(unittest.TestCase):
    def test_arguments_bear_their_names(self):
        self.assertEqual(list(inspect.signature(Hand).parameters), ["table", "reels"])
        self.assertEqual(list(inspect.signature(Hand.do).parameters), ["self", "deed"])
        for method in (Hand.undo, Hand.redo, Hand.table, Hand.past, Hand.ahead):
            self.assertEqual(list(inspect.signature(method).parameters), ["self"])


class TestHand(unittest.TestCase):
    def holds(self, one, table, past, ahead):
        self.assertEqual(one.table(), table)
        self.assertEqual(one.past(), list(past))
        self.assertEqual(one.ahead(), list(ahead))
        for told in (one.past(), one.ahead(), one.table()[0], one.table()[1]):
            self.assertIsInstance(told, list)
        self.assertIsInstance(one.table(), tuple)

    def test_new(self):
        self.holds(Hand(made(), REELS), made(), [], [])

    def test_there_and_back_and_there_again(self):
        tables = tables_of_row(ROW)
        one = Hand(made(), REELS)
        for k, deed in enumerate(ROW):
            self.assertEqual(one.do(deed), tables[k + 1])
            self.holds(one, tables[k + 1], ROW[:k + 1], [])
        for _ in range(2):
            for k in reversed(range(len(ROW))):
                self.assertEqual(one.undo(), tables[k])
                self.holds(one, tables[k], ROW[:k], ROW[k:])
            for k in range(len(ROW)):
                self.assertEqual(one.redo(), tables[k + 1])
                self.holds(one, tables[k + 1], ROW[:k + 1], ROW[k + 1:])

    def test_to_and_fro(self):
        tables = tables_of_row(ROW)
        one = Hand(made(), REELS)
        for deed in ROW:
            one.do(deed)
        at = len(ROW)
        for step in (-1, -1, 1, -1, -1, -1, 1, 1, -1, -1, -1, -1, 1, -1, 1, 1, 1, 1):
            at += step
            self.assertEqual(one.redo() if step > 0 else one.undo(), tables[at])
            self.holds(one, tables[at], ROW[:at], ROW[at:])

    def test_a_new_deed_forgets_what_was_undone(self):
        one = Hand(made(), REELS)
        for deed in ROW[:5]:
            one.do(deed)
        one.undo()
        one.undo()
        other = ("cut", 2, 1)
        right = deed_done(tables_of_row(ROW)[3], other, REELS)
        self.assertEqual(one.do(other), right)
        self.holds(one, right, ROW[:3] + (other,), [])
        with self.assertRaises(NoOrder):
            one.redo()
        self.assertEqual(one.undo(), tables_of_row(ROW)[3])
        self.holds(one, tables_of_row(ROW)[3], ROW[:3], [other])

    def test_the_same_deed_done_new_forgets_too(self):
        one = Hand(made(), REELS)
        one.do(ROW[0])
        one.do(ROW[1])
        one.undo()
        one.undo()
        one.do(ROW[0])
        self.holds(one, tables_of_row(ROW)[1], ROW[:1], [])

    def test_no_order(self):
        one = Hand(made(), REELS)
        for call in (one.undo, one.redo):
            with self.assertRaises(NoOrder) as caught:
                call()
            self.assertIs(type(caught.exception), NoOrder)
            self.holds(one, made(), [], [])
        one.do(ROW[0])
        with self.assertRaises(NoOrder):
            one.redo()
        self.holds(one, tables_of_row(ROW)[1], ROW[:1], [])
        one.undo()
        with self.assertRaises(NoOrder):
            one.undo()
        self.holds(one, made(), [], ROW[:1])
        one.redo()
        with self.assertRaises(NoOrder):
            one.redo()
        self.holds(one, tables_of_row(ROW)[1], ROW[:1], [])

    def test_a_refused_deed_changes_nothing(self):
        table = table_of([clip(20, 4), mix(2), clip(24, 4)])
        wrong = [(NoPlace, ("cut", 0, 4)), (NoPlace, ("cut", 1, 2)), (NoPlace, ("heal", 0, 8)), (NoPlace, ("close", 0, 3, 3)),
                 (NoClip, ("lay_in", 0, 0, gap(1))), (NoClip, ("lay_over", 0, 0, clip(99, 2))), (Mixed, ("open", 0, 4, 2)),
                 (Mixed, ("slip", 0, 2, 99)), (Short, ("slip", 0, 9, 99)), (Short, ("mix", 0, 2, 99))]
        one = Hand(table, REELS)
        one.do(("lay_in", 0, 8, SKY))
        one.do(("cut", 0, 2))
        one.do(("lay_in", 0, 20, SKY))
        one.undo()
        held = (one.table(), one.past(), one.ahead())
        for kind, deed in wrong:
            with self.subTest(deed=deed):
                with self.assertRaises(kind) as caught:
                    one.do(deed)
                self.assertIs(type(caught.exception), kind)
                self.holds(one, *held)
        one.redo()
        self.assertEqual(one.past()[-1], ("lay_in", 0, 20, SKY))

    def test_short_tells_the_most(self):
        one = Hand(table_of([clip(20, 4), clip(40, 4)]), REELS)
        with self.assertRaises(Short) as caught:
            one.do(("roll", 0, 4, 9))
        self.assertEqual(caught.exception.most, 3)

    def test_hands_have_nothing_in_common(self):
        table = made()
        one, other = Hand(table, REELS), Hand(table, REELS)
        one.do(ROW[0])
        self.holds(other, made(), [], [])
        other.do(ROW[1])
        one.undo()
        self.holds(other, deed_done(made(), ROW[1], REELS), ROW[1:2], [])

    def test_undo_does_the_way_back(self):
        one = Hand(made(), REELS)
        deed = ("close", 0, 1, 4)
        one.do(deed)
        with mock.patch.object(hand, "deed_done", side_effect=deed_done) as spied:
            one.undo()
        self.assertEqual([call.args[1] for call in spied.call_args_list], back_of(made(), deed, REELS))

    def test_tables_at_random(self):
        rng = random.Random(25)
        for _ in range(12):
            table = random_table(rng)
            one = Hand(table, REELS)
            tables = [copied(table)]
            row = []
            for _ in range(25):
                deed = rng.choice(list(all_deeds(tables[-1], (SKY, nest(1, 4)))))
                told = outcome(one.do, deed)
                if not isinstance(told[0], type):
                    tables.append(copied(told))
                    row.append(deed)
                self.holds(one, tables[-1], row, [])
            for k in reversed(range(len(row))):
                self.assertEqual(one.undo(), tables[k])
            for k in range(len(row)):
                self.assertEqual(one.redo(), tables[k + 1])


class TestNothingIsChanged(unittest.TestCase):
    def spoil(self, table):
        for track in table[0]:
            track.append(gap(1))
        table[0].append([])
        table[1].append(2)

    def test_what_is_handed_in_stays(self):
        table = made()
        reels = dict(REELS)
        one = Hand(table, reels)
        for deed in ROW:
            one.do(deed)
        for _ in ROW:
            one.undo()
        one.redo()
        outcome(one.do, ("cut", 9, 9))
        self.assertEqual((table, reels), (made(), REELS))

    def test_what_was_handed_in_may_be_changed(self):
        table = made()
        reels = dict(REELS)
        one = Hand(table, reels)
        self.spoil(table)
        reels.clear()
        self.assertEqual(one.table(), made())
        self.assertEqual(one.do(ROW[0]), tables_of_row(ROW)[1])
        self.assertEqual(one.undo(), made())

    def test_what_was_told_may_be_changed(self):
        tables = tables_of_row(ROW)
        one = Hand(made(), REELS)
        self.spoil(one.table())
        self.assertEqual(one.table(), tables[0])
        self.spoil(one.do(ROW[0]))
        self.assertEqual(one.table(), tables[1])
        self.spoil(one.do(ROW[1]))
        self.spoil(one.undo())
        self.assertEqual(one.table(), tables[1])
        self.spoil(one.redo())
        self.assertEqual(one.table(), tables[2])
        self.spoil(one.undo())
        one.past().clear()
        one.past().append(ROW[5])
        one.ahead().clear()
        one.ahead().append(ROW[5])
        self.assertEqual((one.past(), one.ahead()), ([ROW[0]], [ROW[1]]))
        self.assertEqual(one.redo(), tables[2])
        self.assertEqual(one.undo(), tables[1])
        self.assertEqual(one.undo(), tables[0])

    def test_what_was_told_stays(self):
        tables = tables_of_row(ROW)
        one = Hand(made(), REELS)
        told = [one.table()] + [one.do(deed) for deed in ROW]
        past = one.past()
        ahead = one.ahead()
        for _ in ROW:
            one.undo()
        self.assertEqual((told, past, ahead), (tables, list(ROW), []))


if __name__ == "__main__":
    unittest.main()
