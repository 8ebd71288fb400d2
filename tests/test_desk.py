"""Points 2 and 32: a desk that is told rows of text and answers each by a list of texts."""

import copy
import inspect
import unittest

from helper import outcome
from reelcut.desk import Desk
from reelcut.errors import Mixed, NoClip, NoOrder, NoPlace, NoRoom, NoText, Short

MOST = 10**60 - 1
NAMES = ("main", "inner", "sea", "new", "a", "b", "c", "d", "e", "f", "g", "h")
START = (
    "reel sea 100", "reel sky 10", "table inner 2", "at inner", "lay_in 0 2 clip sea 30 1 5", "lay_in 1 0 clip sky 1 1/2 4",
    "table main 3 0 1", "at main", "lay_in 0 0 clip sea 20 1 4", "lay_in 0 4 clip sea 40 1 4", "lay_in 2 0 nest inner 0 9", "mix 0 4 2",
)
FIRST = "clip sea 20 1 4; mix 2; clip sea 40 1 4"
SECOND = "nest inner 0 8"
THIRD = "nest inner 0 9"
# A row of each form, with the kinds of the words behind its first one.
CHANGES = (
    ("cut 0 1", "nn"), ("heal 0 1", "nn"), ("unmix 0 4", "nn"), ("open 1 0 5", "nnn"), ("mix 2 4 1", "nnn"), ("close 0 1 2", "nnn"),
    ("lift 2 0 3", "nnn"), ("roll 2 4 1", "nnb"), ("slip 2 0 -1", "nnb"), ("slide 2 4 1", "nnb"), ("undo", ""), ("redo", ""),
)
LAYS = ("lay_in 2 1 clip sky 0 1 2", "lay_over 2 1 nest inner 3 2")
PUTS = (("reel new 5", "Nn"), ("table new 3 0 2", "Nnnn"), ("table new 1", "Nn"), ("at inner", "N"))
ASKS = (("show 0", "n"), ("tell 3", "n"), ("paint 3", "n"), ("list 0 25 24", "nrr"), ("list 0 30000/1001 1/7", "nrr"))
NO_TEXTS = (None, True, 0, 5, b"undo", b"", ["undo"], ("undo",), ("cut", 0, 1), {}, {"undo": 1})
NO_NUMBERS = ("", "01", "00", "+1", "-0", "1.0", "1/1", "1/2", "one", "1a", "1_0", "\u0661", "1\n", "\t1", "9" * 61, "0" * 60, "1,", "-", "1" + "0" * 60)
NO_NAMES = ("", "A", "New", "new1", "abcdefghi", "ne-w", "\u00e9", "1", "new\n", "new,")
NO_RATES = ("", "0", "-1", "-1/2", "0/1", "1/1", "2/4", "1/0", "1/-2", "25.0", "a", "+25", "025", "1/", "/2", "9" * 61, "1/" + "9" * 61, "25/1", "0/5")
NO_ITEMS = (
    "", " ", "clip", "gap", "gap 0", "gap 01", "gap -1", "mix 0", "nest inner 0", "nest inner 0 0", "nest inner -1 1", "nest Inner 0 1",
    "clip sea 0 1 0", "clip sea 0 1", "clip sea 0 1 1 1", "clip sea 2/4 1 1", "clip Sea 0 1 1", " clip sea 0 1 1", "clip sea 0 1 1 ", "clip  sea 0 1 1",
    "clip sea 0 1 1; clip sea 1 1 1", "hole 1", "end", "0", "clip sea 0 1 " + "9" * 61,
)


def told(*rows):
    """A desk that was told these rows."""
    desk = Desk()
    for row in rows:
        desk.say(row)
    return desk


def tracks_of(desk):
    return [outcome(desk.say, f"show {number}") for number in range(8)]


def way(desk, word):
    """The tracks behind each undo, or each redo, as long as there is one."""
    found = []
    while outcome(desk.say, word) == []:
        found.append(tracks_of(desk))
    return found


def all_of(desk):
    """All that can be told by a desk: asked of copies, so that the desk itself stays as it is."""
    found = [tracks_of(copy.deepcopy(desk)), outcome(copy.deepcopy(desk).say, f"paint {MOST}")]
    for name in NAMES:
        there = copy.deepcopy(desk)
        if outcome(there.say, f"at {name}") == []:
            found.append((name, tracks_of(there), way(copy.deepcopy(there), "undo"), way(there, "redo")))
    for name in NAMES + ("sky",):
        for many in (5, 10, 100):
            found.append(outcome(copy.deepcopy(desk).say, f"lay_in 0 0 clip {name} {many - 1} 1 1"))
        found.append(outcome(copy.deepcopy(desk).say, f"reel {name} 5"))
    return found


class Desks(unittest.TestCase):
    def setUp(self):
        self.desk = told(*START)

    def says(self, *rows):
        for row in rows:
            self.answers(row)

    def answers(self, row, *right):
        answer = self.desk.say(row)
        self.assertEqual(answer, list(right), row)
        self.assertIs(type(answer), list)

    def shows(self, *right):
        """The tracks of the hand's table, from the first on."""
        for number, text in enumerate(right):
            self.answers(f"show {number}", text)
        self.assertEqual(outcome(self.desk.say, f"show {len(right)}"), (NoPlace, {}))

    def refused(self, kind, row, **fields):
        """Refused, and nothing is changed."""
        with self.subTest(row=row):
            before = all_of(self.desk)
            with self.assertRaises(kind) as caught:
                self.desk.say(row)
            self.assertIs(type(caught.exception), kind)
            self.assertEqual(vars(caught.exception), fields)
            self.assertEqual(all_of(self.desk), before)

    def no_order(self, row):
        """As refused, but looked at less closely, for the many rows of no form."""
        with self.subTest(row=row):
            with self.assertRaises(NoOrder) as caught:
                self.desk.say(row)
            self.assertIs(type(caught.exception), NoOrder)


class TestInterface(unittest.TestCase):
    def test_arguments_bear_their_names(self):
        self.assertEqual(list(inspect.signature(Desk).parameters), [])
        self.assertEqual(list(inspect.signature(Desk.say).parameters), ["self", "row"])


class TestPuts(Desks):
    def test_at_first_there_is_nothing(self):
        self.desk = Desk()
        for name in NAMES:
            self.refused(NoRoom, f"at {name}")
        self.says("table main 1", "at main")
        self.refused(NoClip, "lay_in 0 0 clip sea 0 1 1")
        self.shows("")

    def test_reel(self):
        self.refused(NoClip, "lay_over 2 0 clip new 4 1 1")
        self.says("reel new 5")
        self.refused(NoClip, "lay_over 2 0 clip new 5 1 1")
        self.says("lay_over 2 0 clip new 4 1 1", "reel one 1", f"reel many {10**9}", f"lay_over 2 2 clip many {10**9 - 1} 1 1")
        self.shows(FIRST, "", f"clip new 4 1 1; nest inner 1 1; clip many {10**9 - 1} 1 1; nest inner 3 6")

    def test_no_reel(self):
        for row in ("reel sea 100", "reel sea 5", "reel sky 10", "reel new 0", f"reel new {10**9 + 1}", f"reel new {MOST}", "reel sea 0"):
            self.refused(NoRoom, row)

    def test_table(self):
        for many in range(1, 9):
            self.desk = told(f"table new {many}", "at new")
            self.shows(*[""] * many)

    def test_tied(self):
        for many, tied in ((1, ""), (1, " 0"), (3, ""), (3, " 1"), (3, " 0 2"), (3, " 0 1 2"), (8, " 7"), (8, " 0 1 2 3 4 5 6 7")):
            self.desk = told("reel sea 100", "table inner 1", f"table new {many}{tied}", "at new")
            for number in range(many):
                self.says(f"lay_over {number} 0 nest inner 0 4")
            for number in range(many):
                self.says(f"open {number} 1 2")
                alike = [str(other) for other in range(many) if str(other) in tied.split() and str(number) in tied.split()] or [str(number)]
                pushed = "nest inner 0 1; gap 2; nest inner 1 3"
                self.shows(*[pushed if str(other) in alike else "nest inner 0 4" for other in range(many)])
                self.says("undo")

    def test_no_table(self):
        for row in (
            "table main 3", "table inner 1", "table new 0", "table new 9", "table new 10", f"table new {MOST}", "table new 1 1", "table new 3 3",
            "table new 3 0 3", "table new 3 1 0", "table new 3 0 0", "table new 3 2 2", "table new 3 0 2 1", f"table new 3 {MOST}",
            "table new 0 0", "table new 9 8", f"table new {MOST} {MOST - 1}", "table main 0", "table main 3 0 1",
        ):
            self.refused(NoRoom, row)

    def test_at(self):
        self.says("at inner")
        self.shows("gap 2; clip sea 30 1 5", "clip sky 1 1/2 4")
        self.says("at main", "at main")
        self.shows(FIRST, "", THIRD)
        self.refused(NoRoom, "at new")
        self.refused(NoRoom, "at sky")
        self.refused(NoRoom, "at sea")
        self.shows(FIRST, "", THIRD)

    def test_a_new_table_leaves_the_hand_where_it_is(self):
        self.says("table new 1")
        self.shows(FIRST, "", THIRD)

    def test_a_table_called_as_a_reel(self):
        self.says("table sea 1", "at sea", "lay_in 0 0 clip sea 5 1 2", "at main", "lay_over 2 1 nest sea 1 3")
        self.shows(FIRST, "", "nest inner 0 1; nest sea 1 3; nest inner 4 5")
        self.refused(NoRoom, "lay_over 2 0 nest sky 0 1")
        self.refused(NoClip, "lay_over 2 0 clip inner 0 1 1")
        self.says("reel main 3", "lay_over 2 0 clip main 2 1 1")
        self.refused(NoRoom, "lay_over 2 0 nest main 0 1")
        self.says("unmix 0 4", "lift 0 0 8")
        self.answers("tell 0", "main 2 1")
        self.answers("tell 1", "sea 6 1")

    def test_desks_have_nothing_in_common(self):
        other = told(*START)
        before = all_of(other)
        self.says("reel new 5", "table new 2", "cut 0 1", "undo", "undo", "at inner", "cut 0 3")
        self.desk.say("paint 0")
        self.assertEqual(all_of(other), before)


class TestDeeds(Desks):
    def does(self, row, *right):
        """The deed changes the table to this one, undo leads back, redo there again."""
        before = tracks_of(self.desk)
        self.says(row)
        self.shows(*right)
        self.says("undo")
        self.assertEqual(tracks_of(self.desk), before)
        self.says("redo")
        self.shows(*right)
        self.says("undo")

    def test_cut_and_heal(self):
        self.does("cut 0 1", "clip sea 20 1 1; clip sea 21 1 3; mix 2; clip sea 40 1 4", "", THIRD)
        self.does("cut 2 3", FIRST, "", "nest inner 0 3; nest inner 3 6")
        self.says("cut 2 3")
        self.does("heal 2 3", FIRST, "", THIRD)

    def test_mix_and_unmix(self):
        self.does("unmix 0 4", "clip sea 20 1 4; clip sea 40 1 4", "", THIRD)
        self.says("unmix 0 4")
        self.does("mix 0 4 8", "clip sea 20 1 4; mix 8; clip sea 40 1 4", "", THIRD)

    def test_open_and_close(self):
        self.says("lay_over 1 0 nest inner 0 8")
        self.does("open 0 1 5", "clip sea 20 1 1; gap 5; clip sea 21 1 3; mix 2; clip sea 40 1 4", "nest inner 0 1; gap 5; nest inner 1 7", THIRD)
        self.does("open 2 1 5", FIRST, SECOND, "nest inner 0 1; gap 5; nest inner 1 8")
        self.does("close 1 6 8", "clip sea 20 1 4; mix 2; clip sea 40 1 2", "nest inner 0 6", THIRD)
        self.does("close 2 0 8", FIRST, SECOND, "nest inner 8 1")
        self.does("open 2 99 5", FIRST, SECOND, THIRD)

    def test_lift(self):
        self.says("lay_over 1 0 nest inner 0 8")
        self.does("lift 0 5 7", "clip sea 20 1 4; mix 2; clip sea 40 1 1; gap 2; clip sea 43 1 1", SECOND, THIRD)
        self.does("lift 1 7 9", FIRST, "nest inner 0 7", THIRD)

    def test_lay_in(self):
        self.says("lay_over 1 0 nest inner 0 8")
        self.does("lay_in 0 8 clip sky 9/2 -1/2 3", FIRST + "; clip sky 9/2 -1/2 3", SECOND, THIRD)
        self.does("lay_in 1 1 nest inner 5 2", "clip sea 20 1 1; gap 2; clip sea 21 1 3; mix 2; clip sea 40 1 4",
                  "nest inner 0 1; nest inner 5 2; nest inner 1 7", THIRD)
        self.does("lay_in 2 12 clip sea 0 0 40", FIRST, SECOND, THIRD + "; gap 3; clip sea 0 0 40")

    def test_lay_over(self):
        self.does("lay_over 2 3 clip sky 0 1 4", FIRST, "", "nest inner 0 3; clip sky 0 1 4; nest inner 7 2")
        self.does("lay_over 0 5 nest inner 2 20", "clip sea 20 1 4; mix 2; clip sea 40 1 1; nest inner 2 20", "", THIRD)

    def test_roll_slip_and_slide(self):
        self.says("lift 2 0 9", "lay_over 2 0 clip sea 10 1 4", "lay_over 2 4 clip sky 3 1 3", "lay_over 2 7 clip sea 50 2 5")
        self.does("roll 2 4 2", FIRST, "", "clip sea 10 1 6; clip sky 5 1 1; clip sea 50 2 5")
        self.does("roll 2 7 -2", FIRST, "", "clip sea 10 1 4; clip sky 3 1 1; clip sea 46 2 7")
        self.does("slip 2 5 4", FIRST, "", "clip sea 10 1 4; clip sky 7 1 3; clip sea 50 2 5")
        self.does("slip 2 5 -3", FIRST, "", "clip sea 10 1 4; clip sky 0 1 3; clip sea 50 2 5")
        self.does("slide 2 6 -3", FIRST, "", "clip sea 10 1 1; clip sky 3 1 3; clip sea 44 2 8")
        self.does("slide 2 4 0", FIRST, "", "clip sea 10 1 4; clip sky 3 1 3; clip sea 50 2 5")

    def test_great_numbers(self):
        self.does(f"open 2 {MOST // 10} {MOST // 10}", FIRST, "", THIRD)
        self.does(f"lay_over 2 0 nest inner {MOST} {MOST}", FIRST, "", f"nest inner {MOST} {MOST}")
        self.refused(NoPlace, f"cut {MOST} 0")
        self.refused(NoPlace, f"cut 0 {MOST}")
        self.refused(NoPlace, f"slip 0 0 {MOST}")
        self.refused(NoPlace, f"slip 0 0 -{MOST}")
        self.refused(NoPlace, f"show {MOST}")

    def test_refused_as_the_deeds_are(self):
        for row in (
            "cut 0 4", "cut 3 1", "cut 1 0", "heal 2 4", "unmix 2 4", "open 0 0 0", "close 0 3 3", "lift 0 3 2", "mix 0 4 1", "mix 2 4 0", "roll 0 3 1",
            "roll 0 4 1000001", "slide 0 1 1", "slip 2 0 0", "lay_in 3 4 gap 1",
        ):
            self.refused(NoPlace, row)
        for row in ("lay_in 0 4 gap 1", "lay_over 0 4 mix 1", "lay_in 0 4 clip sea 100 1 1", "lay_over 0 4 clip new 0 1 1"):
            self.refused(NoClip, row)
        for row in (
            "lay_in 0 4 clip sea 0 1 1", "lay_over 0 2 clip sea 0 1 2", "open 1 4 1", "close 1 2 4", "lift 0 0 9", "roll 0 4 1", "slip 0 1 99",
        ):
            self.refused(Mixed, row)
        self.says("unmix 0 4")
        self.refused(Short, "mix 0 4 9", most=8)
        self.refused(Short, "roll 0 4 4", most=3)
        self.refused(Short, "roll 0 4 -1000000", most=-3)
        self.refused(Short, "slip 0 0 77", most=76)
        self.refused(Short, "slip 0 4 -41", most=-40)


class TestUndoAndRedo(Desks):
    def test_no_order(self):
        self.desk = told("table main 1", "at main")
        self.refused(NoOrder, "undo")
        self.refused(NoOrder, "redo")

    def test_to_and_fro(self):
        states = [tracks_of(self.desk)]
        for row in ("cut 2 3", "lift 2 4 6", "open 0 8 3", "lay_in 2 4 clip sky 1 1 2"):
            self.says(row)
            states.append(tracks_of(self.desk))
        at = 4
        self.refused(NoOrder, "redo")
        for step in (-1, -1, 1, -1, -1, -1, 1, 1, 1, 1, -1):
            at += step
            self.says("redo" if step > 0 else "undo")
            self.assertEqual(tracks_of(self.desk), states[at])

    def test_a_new_deed_forgets_what_was_undone(self):
        self.says("cut 2 3", "cut 2 5", "undo", "undo", "cut 2 4")
        self.refused(NoOrder, "redo")
        self.says("undo", "redo")
        self.shows(FIRST, "", "nest inner 0 4; nest inner 4 5")

    def test_each_table_has_a_hand_of_its_own(self):
        self.says("cut 2 3", "at inner", "cut 0 4", "cut 1 2", "at main", "undo")
        self.shows(FIRST, "", THIRD)
        self.says("at inner")
        self.refused(NoOrder, "redo")
        self.shows("gap 2; clip sea 30 1 2; clip sea 32 1 3", "clip sky 1 1/2 2; clip sky 2 1/2 2")
        self.says("undo", "at main", "redo")
        self.shows(FIRST, "", "nest inner 0 3; nest inner 3 6")
        self.refused(NoOrder, "redo")
        self.says("at inner")
        self.shows("gap 2; clip sea 30 1 2; clip sea 32 1 3", "clip sky 1 1/2 4")
        self.says("redo")
        self.shows("gap 2; clip sea 30 1 2; clip sea 32 1 3", "clip sky 1 1/2 2; clip sky 2 1/2 2")

    def test_a_deed_at_one_table_leaves_what_was_undone_at_the_other(self):
        self.says("cut 2 3", "undo", "at inner", "cut 0 4", "at main", "redo")
        self.shows(FIRST, "", "nest inner 0 3; nest inner 3 6")

    def test_a_reel_told_behind_the_tables(self):
        self.says("reel new 5", "lay_over 2 2 clip new 1 1 3", "close 2 3 5", "undo")
        self.shows(FIRST, "", "nest inner 0 2; clip new 1 1 3; nest inner 5 4")
        self.says("redo", "undo", "undo", "redo")
        self.shows(FIRST, "", "nest inner 0 2; clip new 1 1 3; nest inner 5 4")
        self.says("slip 2 2 -1")
        self.refused(Short, "slip 2 2 9", most=2)
        self.says("at inner", "lay_in 1 4 clip new 0 1 1")


class TestNoRoom(Desks):
    def test_a_nest_of_no_table(self):
        for word in ("lay_in", "lay_over"):
            for name in ("new", "sky", "sea", "none"):
                self.refused(NoRoom, f"{word} 2 0 nest {name} 0 1")
                self.refused(NoRoom, f"{word} 1 50 nest {name} {MOST} 1")

    def test_a_nest_that_leads_back(self):
        self.says("table new 1", "at new", "lay_in 0 0 nest main 0 1")
        for word in ("lay_in", "lay_over"):
            self.refused(NoRoom, f"{word} 0 0 nest new 0 1")
            self.refused(NoRoom, f"{word} 0 50 nest new 9 1")
        self.says("at inner")
        for word in ("lay_in", "lay_over"):
            for name in ("inner", "main", "new"):
                self.refused(NoRoom, f"{word} 1 0 nest {name} 0 1")

    def test_a_nest_that_leads_back_by_redo(self):
        self.says("undo", "undo", "at inner", "lay_in 1 0 nest main 0 1", "at main")
        self.refused(NoRoom, "redo")
        self.says("at inner", "undo", "at main", "redo", "redo")
        self.shows(FIRST, "", THIRD)

    def test_a_nest_that_leads_back_by_undo(self):
        self.says("lift 2 0 9", "at inner", "lay_over 1 0 nest main 0 1", "at main")
        self.refused(NoRoom, "undo")
        self.says("cut 0 1", "undo")
        self.refused(NoRoom, "undo")
        self.says("at inner", "undo", "at main", "undo")
        self.shows(FIRST, "", THIRD)

    def chain(self, names):
        """Tables, each of which is nested in the next one."""
        self.desk = told("reel sea 100")
        for name in names:
            self.says(f"table {name} 2")
        for below, name in zip(names, names[1:]):
            self.says(f"at {name}", f"lay_in 0 0 nest {below} 0 4")

    def test_more_than_six_deep(self):
        for word in ("lay_in", "lay_over"):
            self.chain("abcdef")
            self.says("table g 1", "at g")
            self.refused(NoRoom, f"{word} 0 0 nest f 0 1")
            self.says(f"{word} 0 0 nest e 0 1", "at a")
            self.says("table h 1")
            self.refused(NoRoom, f"{word} 1 3 nest h 0 1")
            self.says("at b", f"{word} 1 3 nest h 0 1")

    def test_more_than_six_deep_by_redo(self):
        self.chain("abcde")
        self.says("table h 1", "at a", "lay_in 0 0 nest h 0 1", "undo", "table f 1", "at f", "lay_in 0 0 nest e 0 1", "at a")
        self.refused(NoRoom, "redo")
        self.says("at f", "undo", "at a", "redo", "at f")
        self.refused(NoRoom, "redo")

    def test_more_than_six_deep_by_undo(self):
        self.chain("abcde")
        self.says("table h 1", "at a", "lay_in 0 0 nest h 0 1", "close 0 0 1", "table f 1", "at f", "lay_in 0 0 nest e 0 1", "at a")
        self.refused(NoRoom, "undo")
        self.says("at f", "close 0 0 1", "at a", "undo", "at f")
        self.refused(NoRoom, "undo")

    def test_behind_all_else_that_is_due(self):
        for name in ("main", "none"):
            for word in ("lay_in", "lay_over"):
                self.refused(NoText, f"{word} 0 0 nest {name} 0 0")
                self.refused(NoPlace, f"{word} 3 0 nest {name} 0 1")
                self.refused(Mixed, f"{word} 0 4 nest {name} 0 1")
                self.no_order(f"{word} 0 x nest {name} 0 1")
        self.refused(Mixed, "lay_in 1 4 nest none 0 1")

    def test_what_was_undone_stays(self):
        self.says("cut 2 3", "cut 2 5", "undo", "undo")
        self.refused(NoRoom, "lay_in 2 0 nest main 0 1")
        self.refused(NoRoom, "lay_over 2 0 nest none 0 1")
        self.says("redo", "redo")
        self.shows(FIRST, "", "nest inner 0 3; nest inner 3 2; nest inner 5 4")


class TestNoForm(Desks):
    rows = CHANGES + PUTS + ASKS

    def test_the_rows_are_of_the_forms(self):
        self.says("undo")
        for row in [row for row, kinds in self.rows] + list(LAYS):
            self.assertNotEqual(outcome(copy.deepcopy(self.desk).say, row), (NoOrder, {}), row)

    def test_no_text(self):
        for thing in NO_TEXTS:
            self.refused(NoOrder, thing)
        self.desk = Desk()
        for thing in NO_TEXTS:
            self.refused(NoOrder, thing)

    def test_no_word(self):
        for row in ("", " ", "  ", "\n", "0", "cutt 0 1", "cu 0 1", "Cut 0 1", "CUT 0 1", "cut0 1", "(cut 0 1)", "hold 0", "tables", "help", "quit",
                    "gap 1", "clip sea 0 1 1", "nest inner 0 1", "forget main", "laid_flat", "lay 0 0 gap 1", "unlay 0 0", "name", "count 1"):
            self.refused(NoOrder, row)

    def test_words_missing_or_too_many(self):
        for row, kinds in self.rows:
            if kinds and row != "table new 3 0 2":
                self.no_order(row.rpartition(" ")[0])
            for more in ("0", "1", "x", "main", "1/2"):
                if not (row.startswith("table") and more in "01"):
                    self.no_order(f"{row} {more}")
        for row in ("table", "table new", "reel", "reel new", "at", "show", "list 0", "list 0 25", "cut", "cut 0", "open 0", "roll"):
            self.refused(NoOrder, row)

    def test_blanks(self):
        for row, kinds in self.rows:
            for wrong in (f" {row}", f"{row} ", f"{row}\n", f"\n{row}", f"{row}\t", f"{row};"):
                self.no_order(wrong)
            for place, sign in enumerate(row):
                if sign == " ":
                    for other in ("  ", "\t", "\n", ",", "\u00a0", "  \n"):
                        self.no_order(row[:place] + other + row[place + 1:])

    def test_words_that_are_none(self):
        wrong = {"n": NO_NUMBERS + ("-1", f"-{MOST}"), "b": NO_NUMBERS, "N": NO_NAMES, "r": NO_RATES}
        for row, kinds in self.rows:
            words = row.split(" ")
            for place, kind in enumerate(kinds):
                for word in wrong[kind]:
                    self.no_order(" ".join(words[:place + 1] + [word] + words[place + 2:]))

    def test_lays(self):
        for row in LAYS:
            word, track, moment, item = row.split(" ", 3)
            for wrong in (word, f"{word} ", f"{word} {track}", f"{word} {track} ", f"{word} {track} {moment}", f"{word}  {track} {moment} {item}",
                          f"{word} {track}  {moment} {item}", f" {row}", f"{word}\t{track} {moment} {item}", f"{word} {item}", f"{word} {track} {item}"):
                self.no_order(wrong)
            for number in NO_NUMBERS + ("-1",):
                self.no_order(f"{word} {number} {moment} {item}")
                self.no_order(f"{word} {track} {number} {item}")
                self.no_order(f"{word} {number} {moment} hole")

    def test_nothing_is_changed(self):
        before = all_of(self.desk)
        for test in (self.test_words_missing_or_too_many, self.test_blanks, self.test_words_that_are_none, self.test_lays):
            test()
        self.assertEqual(all_of(self.desk), before)

    def test_by_may_be_below_nought_alone(self):
        self.says("unmix 0 4", "roll 0 4 -1", "roll 0 3 1")
        for row in ("tell -1", "paint -1", "show -1", "reel new -1", "table new -1", "cut -1 0", "cut 0 -1", "mix 0 4 -1", "close 0 -1 3", "close 0 1 -3"):
            self.refused(NoOrder, row)


class TestNoText(Desks):
    def test_no_item(self):
        for item in NO_ITEMS:
            for word in ("lay_in", "lay_over"):
                self.refused(NoText, f"{word} 2 1 {item}")

    def test_ahead_of_what_the_deed_refuses(self):
        for item in NO_ITEMS:
            for word in ("lay_in", "lay_over"):
                for place in ("3 0", "99 99", "0 4", f"{MOST} {MOST}"):
                    with self.assertRaises(NoText):
                        self.desk.say(f"{word} {place} {item}")

    def test_a_blank_behind_the_item(self):
        for row in LAYS:
            self.refused(NoText, f"{row} ")
            self.refused(NoText, f"{row}\n")
            self.refused(NoText, row.replace(" inner ", "  inner ").replace(" sky ", "  sky "))


class TestNoHand(Desks):
    def test_at_no_table(self):
        for start in ((), ("reel sea 100",), ("reel sea 100", "table main 3", "table inner 1")):
            self.desk = told(*start)
            for row, kinds in CHANGES + ASKS:
                self.refused(NoOrder, row)
            for row in LAYS:
                self.refused(NoOrder, row)

    def test_ahead_of_all_else(self):
        self.desk = told("table main 1")
        for row in (
            "lay_in 0 0 hole", "lay_in 0 0 ", "lay_over 9 9 clip none 0 1 1", "lay_in 0 0 nest none 0 1", "lay_in 0 0 gap 1", "cut 9 9", "close 0 5 1",
            "show 9", f"show {MOST}", "list 9 25 24", "open 0 0 0", "slip 0 0 1000001", "mix 0 0 1", "lay_in 0 0 nest main 0 1",
        ):
            self.refused(NoOrder, row)

    def test_a_refused_at_leaves_it_at_none(self):
        self.desk = told("table main 1")
        self.refused(NoRoom, "at inner")
        self.refused(NoOrder, "show 0")
        self.says("at main")
        self.shows("")


class TestAsks(Desks):
    def test_show(self):
        self.shows(FIRST, "", THIRD)
        for number in (3, 7, 8, MOST):
            self.refused(NoPlace, f"show {number}")

    def test_tell(self):
        self.answers("tell 0", "sea 20 1")
        self.answers("tell 3", "sea 23 2/3", "sea 39 1/3")
        self.answers("tell 4", "sea 24 1/3", "sea 40 2/3")
        self.answers("tell 5", "sea 41 1")
        self.answers("tell 8")
        self.answers(f"tell {MOST}")
        self.says("unmix 0 4", "lift 0 0 8")
        for moment, right in enumerate((["sky 1 1"], ["sky 1 1"], ["sea 30 1"], ["sea 31 1"], ["sea 32 1"], ["sea 33 1"], ["sea 34 1"], [], [])):
            self.answers(f"tell {moment}", *right)

    def test_tell_goes_by_the_room_as_it_is_then(self):
        self.says("unmix 0 4", "lift 0 0 8")
        self.answers("tell 2", "sea 30 1")
        self.says("at inner", "slip 0 2 7", "at main")
        self.answers("tell 2", "sea 37 1")
        self.says("at inner", "lift 0 2 3", "at main")
        self.answers("tell 2", "sky 2 1")
        self.says("at inner", "undo", "undo", "at main")
        self.answers("tell 2", "sea 30 1")

    def test_list(self):
        self.answers("list 0 25 24", "0 0 clip sea 20 1", "3 21/25 mix 2", "3 21/25 clip sea 40 1", "7 17/25 end")
        self.answers("list 0 24 24", "0 0 clip sea 20 1", "4 0 mix 2", "4 0 clip sea 40 1", "8 0 end")
        self.answers("list 1 30000/1001 25", "0 0 end")
        self.says("lay_in 2 12 clip sky 9/2 -1/3 5")
        self.answers("list 2 1/2 1/3", "0 0 nest inner 0", "6 0 gap", "8 0 clip sky 9/2 -1/3", "11 1/3 end")
        for row in ("list 3 25 24", f"list {MOST} 25 24"):
            self.refused(NoPlace, row)

    def test_list_and_show_go_by_the_table_as_it_is_then(self):
        self.answers("list 2 1 2", "0 0 nest inner 0", "18 0 end")
        self.says("close 2 1 4")
        self.answers("list 2 1 2", "0 0 nest inner 0", "2 0 nest inner 4", "12 0 end")
        self.answers("show 2", "nest inner 0 1; nest inner 4 5")
        self.says("undo")
        self.answers("list 2 1 2", "0 0 nest inner 0", "18 0 end")
        self.answers("show 2", THIRD)
        self.says("at inner")
        self.answers("list 0 1 2", "0 0 gap", "4 0 clip sea 30 1", "14 0 end")

    def test_paint(self):
        self.answers("paint 0", "1", "sea 20 1")
        self.answers("paint 0", "1", "sea 20 1")
        self.answers("paint 3", "2", "sea 23 2/3", "sea 39 1/3")
        self.answers("paint 100", "3")
        self.answers("paint 100", "3")
        self.answers("paint 0", "3", "sea 20 1")
        self.says("cut 0 1")
        self.answers("paint 0", "3", "sea 20 1")
        self.says("slip 0 0 5")
        self.answers("paint 0", "4", "sea 25 1")
        self.answers("paint 3", "4", "sea 23 2/3", "sea 39 1/3")
        self.says("undo")
        self.answers("paint 0", "5", "sea 20 1")
        self.says("redo")
        self.answers("paint 0", "6", "sea 25 1")

    def test_paint_where_a_nested_table_alone_was_changed(self):
        self.says("unmix 0 4", "lift 0 0 8")
        self.answers("paint 2", "1", "sea 30 1")
        self.answers("paint 3", "2", "sea 31 1")
        self.says("at inner", "cut 0 4", "at main")
        self.answers("paint 2", "2", "sea 30 1")
        self.says("at inner", "lift 0 3 4", "at main")
        self.answers("paint 2", "2", "sea 30 1")
        self.answers("paint 3", "3", "sky 2 1")
        self.answers("paint 3", "3", "sky 2 1")
        self.says("at inner")
        self.answers("paint 2", "4", "sea 30 1")
        self.says("undo")
        self.answers("paint 3", "5", "sea 31 1")
        self.says("at main")
        self.answers("paint 3", "6", "sea 31 1")

    def test_telling_and_showing_paint_nothing(self):
        for row in ("tell 0", "tell 5", "show 0", "list 0 25 24"):
            self.desk.say(row)
        self.answers("paint 0", "1", "sea 20 1")

    def test_tables_are_painted_apart(self):
        self.says("table new 1", "at new", "lay_in 0 0 clip sea 20 1 4")
        self.answers("paint 0", "1", "sea 20 1")
        self.says("at main")
        self.answers("paint 0", "2", "sea 20 1")
        self.says("at new")
        self.answers("paint 0", "2", "sea 20 1")

    def test_asking_changes_nothing(self):
        before = all_of(self.desk)
        for row in ("show 0", "tell 0", "list 0 25 24", "tell 99", "show 1"):
            self.desk.say(row)
        self.assertEqual(all_of(self.desk), before)


class TestNothingIsKeptInCommon(Desks):
    def test_what_is_told_is_the_askers_own(self):
        for row in ("show 0", "show 1", "tell 3", "tell 99", "paint 3", "list 0 25 24", "list 1 25 24", "at main"):
            right = self.desk.say(row)
            before = all_of(self.desk)
            answer = self.desk.say(row)
            answer.append("more")
            answer[0] = "other"
            self.assertEqual(self.desk.say(row), right)
            self.assertEqual(all_of(self.desk), before)

    def test_what_a_paint_told_may_be_changed(self):
        for answer in (self.desk.say("paint 3"), self.desk.say("paint 3")):
            answer[1] = "other"
            answer.clear()
        self.answers("paint 3", "1", "sea 23 2/3", "sea 39 1/3")

    def test_an_answer_to_a_row_that_puts_may_be_changed(self):
        for row in ("reel new 5", "table new 1", "at new", "at main", "cut 0 1", "undo", "redo"):
            self.desk.say(row).append("more")
        self.says("undo")
        self.shows(FIRST, "", THIRD)


if __name__ == "__main__":
    unittest.main()
