"""Points 2, 3 and 28: a painter that paints only what was not asked there or is told otherwise now."""

import copy
import inspect
import random
import unittest

from helper import REELS, clip, gap, mix, nest, outcome, random_room, room_of
from reelcut.errors import NoRoom
from reelcut.painter import Painter
from reelcut.tables import told_at

WHOLE = (1, 1)


class Spy:
    """A paint that keeps what it was called with, and tells what show makes of it."""

    def __init__(self, show=tuple):
        self.show = show
        self.calls = []

    def __call__(self, telling):
        self.calls.append(copy.deepcopy(telling))
        return self.show(telling)


def made():
    return room_of(main=[[nest(0, 4, "inner"), clip(20, 4), mix(2), clip(40, 4)], [clip(60, 9, 1)]], inner=[[gap(1), clip(70, 2)]], bare=[[]])


class TestInterface(unittest.TestCase):
    def test_arguments_bear_their_names(self):
        self.assertEqual(list(inspect.signature(Painter).parameters), ["paint"])
        self.assertEqual(list(inspect.signature(Painter.asked).parameters), ["self", "room", "name", "moment"])
        self.assertEqual(list(inspect.signature(Painter.forget).parameters), ["self", "name"])
        for method in (Painter.painted, Painter.known):
            self.assertEqual(list(inspect.signature(method).parameters), ["self"])


class Painters(unittest.TestCase):
    def setUp(self):
        self.spy = Spy()
        self.painter = Painter(self.spy)

    def ask(self, room, name, moment, painted, known):
        """Asked, it tells what painting anew would tell, and has painted and keeps so many then."""
        right = told_at(room, name, moment)
        self.assertEqual(self.painter.asked(room, name, moment), tuple(right))
        self.assertEqual((self.painter.painted(), self.painter.known()), (painted, known))
        self.assertEqual(len(self.spy.calls), painted)
        for told in (self.painter.painted(), self.painter.known()):
            self.assertIs(type(told), int)
        if painted:
            self.assertIs(type(self.spy.calls[-1]), list)

    def refused(self, room, name):
        state = (self.painter.painted(), self.painter.known(), len(self.spy.calls))
        with self.assertRaises(NoRoom) as caught:
            self.painter.asked(room, name, 0)
        self.assertIs(type(caught.exception), NoRoom)
        self.assertEqual((self.painter.painted(), self.painter.known(), len(self.spy.calls)), state)


class TestAsked(Painters):
    def test_new(self):
        self.assertEqual((self.painter.painted(), self.painter.known()), (0, 0))
        self.assertEqual(self.spy.calls, [])

    def test_once_for_a_name_and_moment(self):
        room = made()
        for _ in range(3):
            self.ask(room, "main", 1, 1, 1)
        self.assertEqual(self.spy.calls, [[("sea", 70, WHOLE)]])
        for _ in range(2):
            self.ask(room, "main", 7, 2, 2)
        self.assertEqual(self.spy.calls[1:], [[("sea", 27 - 4, (2, 3)), ("sea", 39, (1, 3))]])

    def test_where_nothing_is_told(self):
        room = made()
        for _ in range(3):
            self.ask(room, "bare", 0, 1, 1)
        self.ask(room, "main", 100, 2, 2)
        self.ask(room, "main", 100, 2, 2)
        self.assertEqual(self.spy.calls, [[], []])

    def test_moments_are_kept_apart(self):
        room = room_of(main=[[clip(5, 9, 0)]])
        for moment in range(9):
            self.ask(room, "main", moment, moment + 1, moment + 1)
        for moment in reversed(range(9)):
            self.ask(room, "main", moment, 9, 9)
        self.ask(room, "main", 10**50, 10, 10)

    def test_names_are_kept_apart(self):
        room = room_of(one=[[clip(5, 9)]], other=[[clip(5, 9)]])
        self.ask(room, "one", 2, 1, 1)
        self.ask(room, "other", 2, 2, 2)
        self.ask(room, "one", 2, 2, 2)
        self.ask(room, "other", 2, 2, 2)
        self.assertEqual(self.spy.calls, [[("sea", 7, WHOLE)]] * 2)

    def test_one_name_changed_leaves_the_other(self):
        room = room_of(one=[[clip(5, 9)]], other=[[clip(5, 9)]])
        self.ask(room, "one", 2, 1, 1)
        self.ask(room, "other", 2, 2, 2)
        room[1]["one"][0][0][0] = clip(50, 9)
        self.ask(room, "one", 2, 3, 2)
        self.ask(room, "other", 2, 3, 2)

    def test_told_otherwise(self):
        room = room_of(main=[[clip(5, 9)]])
        self.ask(room, "main", 2, 1, 1)
        room[1]["main"][0][0][0] = clip(6, 9)
        self.ask(room, "main", 2, 2, 1)
        self.ask(room, "main", 2, 2, 1)
        room[1]["main"][0][0][0] = clip(1, 9, 1, "sky")
        self.ask(room, "main", 2, 3, 1)
        room[1]["main"][0][0].clear()
        self.ask(room, "main", 2, 4, 1)
        self.ask(room, "main", 2, 4, 1)

    def test_only_a_share_is_another_one(self):
        room = room_of(main=[[clip(20, 5, 0), mix(3), clip(40, 5, 0)]])
        self.ask(room, "main", 5, 1, 1)
        room[1]["main"][0][0][1] = mix(5)
        self.ask(room, "main", 5, 1, 1)
        self.ask(room, "main", 4, 2, 2)
        room[1]["main"][0][0][1] = mix(3)
        self.ask(room, "main", 4, 3, 2)
        self.ask(room, "main", 5, 3, 2)

    def test_changed_but_told_the_same(self):
        room = room_of(main=[[clip(5, 9)], [clip(50, 9)]])
        self.ask(room, "main", 2, 1, 1)
        room[1]["main"][0][1].clear()
        room[1]["main"][0][0][0] = clip(3, 20, 2)
        room[1]["main"][1].append(0)
        room[0]["new"] = 5
        self.ask(room, "main", 2, 1, 1)
        room[1]["main"] = ([[nest(1, 9, "inner")]], [])
        room[1]["inner"] = ([[gap(3), clip(7, 1)]], [])
        self.ask(room, "main", 2, 1, 1)

    def test_a_table_nested_in_it_alone_is_changed(self):
        room = room_of(high=[[nest(1, 9, "middle")]], middle=[[nest(2, 9, "low")]], low=[[clip(5, 20)]])
        self.ask(room, "high", 3, 1, 1)
        room[1]["low"][0][0][0] = clip(6, 20)
        self.ask(room, "high", 3, 2, 1)
        self.ask(room, "high", 3, 2, 1)
        room[1]["low"][0][0].clear()
        self.ask(room, "high", 3, 3, 1)

    def test_another_room(self):
        one, same, other = (room_of(main=[[clip(start, 9)]], more=[[]]) for start in (5, 5, 6))
        self.ask(one, "main", 2, 1, 1)
        self.ask(same, "main", 2, 1, 1)
        self.ask(other, "main", 2, 2, 1)
        self.ask(same, "main", 2, 3, 1)
        self.ask(one, "main", 2, 3, 1)

    def test_back_and_forth(self):
        one, other = (room_of(main=[[clip(start, 9)]]) for start in (5, 6))
        for k in range(5):
            self.ask(one, "main", 2, 2 * k + 1, 1)
            self.ask(one, "main", 2, 2 * k + 1, 1)
            self.ask(other, "main", 2, 2 * k + 2, 1)
        self.assertEqual(self.spy.calls, [[("sea", 7, WHOLE)], [("sea", 8, WHOLE)]] * 5)

    def test_painters_have_nothing_in_common(self):
        room = made()
        self.ask(room, "main", 2, 1, 1)
        other = Painter(len)
        self.assertEqual((other.painted(), other.known()), (0, 0))
        self.assertEqual(other.asked(room, "main", 2), 1)
        other.forget("main")
        self.ask(room, "main", 2, 1, 1)
        self.assertEqual((other.painted(), other.known()), (1, 0))


class TestForget(Painters):
    def test_all_moments_of_one_name(self):
        room = made()
        for k, moment in enumerate((0, 1, 5, 100)):
            self.ask(room, "main", moment, k + 1, k + 1)
        self.ask(room, "inner", 1, 5, 5)
        self.assertIsNone(self.painter.forget("main"))
        self.assertEqual((self.painter.painted(), self.painter.known()), (5, 1))
        self.ask(room, "inner", 1, 5, 1)
        self.ask(room, "main", 5, 6, 2)
        self.ask(room, "main", 5, 6, 2)
        self.ask(room, "main", 0, 7, 3)

    def test_what_was_never_asked_for(self):
        self.assertIsNone(self.painter.forget("main"))
        self.ask(made(), "main", 2, 1, 1)
        for name in ("inner", "bare", "none", "mai", "mainx", "m"):
            self.assertIsNone(self.painter.forget(name))
            self.ask(made(), "main", 2, 1, 1)

    def test_twice(self):
        self.ask(made(), "main", 2, 1, 1)
        self.assertIsNone(self.painter.forget("main"))
        self.assertIsNone(self.painter.forget("main"))
        self.assertEqual((self.painter.painted(), self.painter.known()), (1, 0))
        self.ask(made(), "main", 2, 2, 1)


class TestNoTable(Painters):
    def test_a_name_that_is_no_tables(self):
        room = made()
        for name in ("none", "sea", "", "Main", "mai", "nowhere", None, True, 5, ("main",), ["main"], {"main": 1}):
            self.refused(room, name)
            self.refused((dict(REELS), {}), name)
        self.refused((dict(REELS), {}), "main")
        self.assertEqual((self.painter.painted(), self.painter.known()), (0, 0))

    def test_one_that_was_a_table_at_an_earlier_ask(self):
        room = made()
        self.ask(room, "bare", 0, 1, 1)
        self.ask(room, "main", 0, 2, 2)
        gone = room[1].pop("bare")
        self.refused(room, "bare")
        self.ask(room, "main", 0, 2, 2)
        room[1]["bare"] = gone
        self.ask(room, "bare", 0, 2, 2)
        gone[0][0].append(clip(5, 3))
        self.ask(room, "bare", 0, 3, 2)

    def test_forget_of_one_that_is_no_table_any_more(self):
        room = made()
        self.ask(room, "bare", 0, 1, 1)
        del room[1]["bare"]
        self.assertIsNone(self.painter.forget("bare"))
        self.assertEqual((self.painter.painted(), self.painter.known()), (1, 0))
        self.refused(room, "bare")


class TestWhatPaintTells(unittest.TestCase):
    def tells(self, thing):
        """Told as it is, and again without another call."""
        spy = Spy(lambda telling: thing)
        painter = Painter(spy)
        for _ in range(3):
            told = painter.asked(made(), "main", 2)
            self.assertEqual(repr(told), repr(thing))
            self.assertEqual((painter.painted(), painter.known(), len(spy.calls)), (1, 1, 1))
        return told

    def test_none_and_truths(self):
        for thing in (None, False, True):
            self.assertIs(self.tells(thing), thing)

    def test_other_things(self):
        for thing in (0, -5, 10**50, "", "text", (), (1, 2), [], [1], {}, {"a": 1}, ([],), [[1], [2, [3]]], {"a": [1], (1, 2): {"b": ()}}):
            self.tells(thing)

    def test_a_thing_of_the_askers(self):
        thing = object()
        self.assertIs(self.tells(thing), thing)

    def test_another_thing_at_each_call(self):
        things = [None, False, 0, [], "", None]
        coming = iter(things)
        painter = Painter(lambda telling: next(coming))
        rooms = [room_of(main=[[clip(start, 9)]]) for start in (5, 6)]
        for k, thing in enumerate(things):
            for _ in range(2):
                self.assertEqual(repr(painter.asked(rooms[k % 2], "main", 2)), repr(thing))
                self.assertEqual(painter.painted(), k + 1)

    def test_none_is_kept_for_each_moment(self):
        painter = Painter(lambda telling: None)
        for painted in (4, 4):
            for moment in (0, 1, 2, 50):
                self.assertIsNone(painter.asked(made(), "main", moment))
            self.assertEqual((painter.painted(), painter.known()), (painted, 4))


class TestNothingIsChanged(unittest.TestCase):
    def test_the_room_stays(self):
        room = made()
        painter = Painter(list)
        for moment in range(14):
            painter.asked(room, "main", moment)
        outcome(painter.asked, room, "none", 0)
        painter.forget("main")
        self.assertEqual(room, made())

    def test_what_paint_does_to_its_list(self):
        def spoil(telling):
            right = tuple(telling)
            telling.append("more")
            telling[0] = "other"
            return right

        room = made()
        painter = Painter(spoil)
        for _ in range(3):
            self.assertEqual(painter.asked(room, "main", 7), tuple(told_at(room, "main", 7)))
            self.assertEqual(painter.painted(), 1)
        self.assertEqual(room, made())

    def test_what_paint_does_to_its_list_later(self):
        kept = []

        def keep(telling):
            for one in kept:
                one.append("more")
            kept.append(telling)
            return telling

        room = made()
        painter = Painter(keep)
        for painted in (3, 3):
            for moment in (1, 7, 100):
                self.assertEqual(painter.asked(room, "main", moment), told_at(room, "main", moment))
            self.assertEqual(painter.painted(), painted)
            for one in kept:
                one.append("yet more")

    def test_what_paint_does_to_what_it_told(self):
        told = {"rows": [1], "more": ([2], {"deep": [3]})}
        painter = Painter(lambda telling: told)
        right = copy.deepcopy(told)
        self.assertEqual(painter.asked(made(), "main", 2), right)
        told["rows"].append(5)
        told["more"][0].append(5)
        told["more"][1]["deep"].append(5)
        told["other"] = 5
        self.assertEqual(painter.asked(made(), "main", 2), right)
        self.assertEqual(painter.painted(), 1)

    def test_what_is_told_is_the_askers_own(self):
        thing = [[1], ([2], {"deep": [3]}), {"row": [4]}]
        right = copy.deepcopy(thing)
        painter = Painter(lambda telling: thing)
        for _ in range(3):
            told = painter.asked(made(), "main", 2)
            self.assertEqual(told, right)
            told[0].append(5)
            told[1][0].append(5)
            told[1][1]["deep"].append(5)
            told[1][1]["new"] = 5
            told[2]["row"].append(5)
            told.append(5)
            self.assertEqual(thing, right)
        self.assertEqual(painter.painted(), 1)

    def test_the_telling_told_as_it_is(self):
        painter = Painter(lambda telling: telling)
        room = made()
        for _ in range(3):
            told = painter.asked(room, "main", 7)
            self.assertEqual(told, told_at(room, "main", 7))
            told.clear()
        self.assertEqual(painter.painted(), 1)

    def test_a_room_that_is_changed_behind_the_call(self):
        room = made()
        painter = Painter(list)
        painter.asked(room, "main", 7)
        room[1]["main"][0][0].clear()
        self.assertEqual(painter.asked(made(), "main", 7), told_at(made(), "main", 7))
        self.assertEqual(painter.painted(), 1)


class TestAtRandom(Painters):
    def test_as_painting_anew_would_tell(self):
        rng = random.Random(28)
        rooms = [random_room(rng) for _ in range(6)]
        last, painted = {}, 0
        for _ in range(3000):
            room = rng.choice(rooms)
            name, moment = rng.choice(sorted(room[1])), rng.choice((0, 1, 2, 5, 9, 14, 30))
            telling = told_at(room, name, moment)
            painted += last.get((name, moment)) != telling
            last[name, moment] = telling
            self.ask(room, name, moment, painted, len(last))
            if rng.random() < 0.02:
                name = rng.choice(("a", "b", "empty", "none"))
                self.painter.forget(name)
                last = {key: telling for key, telling in last.items() if key[0] != name}
        self.assertGreater(painted, 300)


if __name__ == "__main__":
    unittest.main()
