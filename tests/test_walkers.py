"""Promise [29]: walkers and trackers."""

import inspect
import unittest

from cuspfloor.errors import BadFloor, BadMatrix, BadNumber, BadPlace, BadWord, NothingToUndo
from cuspfloor.walkers import Tracker, Walker
from some_floors import CHAIN, EVEN, FEW, ODD, ONE, SCATTERED, WRONG_FLOORS, follow, renamed, zero_floor
from support import (F, HUGE, IDENTITY, LETTERS, NO_MATRICES, OTHER_DETERMINANTS, R, S, STRANGE, T, back, long_word,
                     multiplied, of_letters,
                     scattered, undone, words_up_to)

NO_INTEGERS = STRANGE + ["1", "", "0", (), (1,), [1], (1, 0)]
WRONG_PLACES = NO_INTEGERS + [-1, 3, 120, HUGE, -HUGE]
WRONG_MATRICES = NO_MATRICES + OTHER_DETERMINANTS + [((-1, 0), (0, -1)), ((0, 1), (-1, 0))]
WAYS = [words_up_to(5)[at] for at in scattered(40, len(words_up_to(5)), 7)]
KINDS = (Walker, Tracker)


class WalkerTest(unittest.TestCase):
    def assert_state(self, walker, place, total, history=()):
        self.assertEqual((walker.place, walker.total), (place, total))
        self.assertEqual([type(walker.place), type(walker.total)], [int, tuple])
        if isinstance(walker, Tracker):
            self.assertEqual(walker.history, history)
            self.assertIs(type(walker.history), tuple)


class Making(WalkerTest):
    def test_example(self):
        tracker = Tracker(((2, 1, 0), (1, 2, 0)))
        self.assertEqual((tracker.go(F, T), tracker.total, tracker.rehearse(F), list(tracker.letters("Sr")), tracker.place),
                         (2, ((1, 1), (1, 2)), (2,), [0, 2], 2))

    def test_at_first(self):
        for kind in KINDS:
            for floor in FEW:
                self.assert_state(kind(floor), 0, IDENTITY)
                for place in (0, len(floor[0]) - 1):
                    walker = kind(floor, place=place)
                    self.assert_state(walker, place, IDENTITY)
                    self.assertIs(walker.floor, floor)
            self.assert_state(kind(place=2, floor=EVEN), 2, IDENTITY)

    def test_floor_that_was_passed(self):
        floor = renamed(ODD, [3, 0, 1, 2, 6, 5, 4])
        for kind in KINDS:
            walker = kind(floor)
            walker.go(T)
            self.assertIs(walker.floor, floor)

    def test_only_the_place_can_be_assigned(self):
        tracker = Tracker(EVEN)
        for name, value in [("floor", ONE), ("total", S), ("history", ())]:
            with self.assertRaises(AttributeError):
                setattr(tracker, name, value)
        self.assert_state(tracker, 0, IDENTITY)

    def test_subclass(self):
        self.assertEqual(Tracker.__bases__, (Walker,))

    def test_wrong_floors(self):
        for kind in KINDS:
            for value, part in WRONG_FLOORS + [(value, "form") for value in STRANGE]:
                for place in (0, -1, None):
                    with self.assertRaises(BadFloor) as caught:
                        kind(value, place=place)
                    self.assertEqual(caught.exception.part, part)

    def test_wrong_places(self):
        for kind in KINDS:
            for value in WRONG_PLACES:
                with self.assertRaises(BadPlace) as caught:
                    kind(EVEN, place=value)
                self.assertIs(caught.exception.value, value)
            with self.assertRaises(TypeError):
                kind(EVEN, 1)


class Go(WalkerTest):
    def test_place_and_total_after_each_call(self):
        for kind in KINDS:
            for floor in FEW + [CHAIN, SCATTERED[9]]:
                for place in (0, len(floor[0]) // 2):
                    walker = kind(floor, place=place)
                    gone, calls = "", ()
                    for at, way in enumerate(WAYS):
                        parts = [way[:at % 4], way[at % 4:]] if at % 3 else [way]
                        gone += way
                        calls += (tuple(of_letters(part) for part in parts),)
                        place = follow(floor, place, way)
                        self.assertEqual(walker.go(*calls[-1]), place)
                        self.assert_state(walker, place, of_letters(gone), calls)

    def test_without_matrices(self):
        for kind in KINDS:
            walker = kind(EVEN, place=1)
            self.assertEqual(walker.go(), 1)
            self.assert_state(walker, 1, IDENTITY, ((),))
            self.assertEqual(walker.go(T), 2)
            self.assertEqual(walker.go(), 2)
            self.assert_state(walker, 2, T, ((), (T,), ()))

    def test_hundreds_of_digits(self):
        for kind in KINDS:
            walker = kind(ODD)
            self.assertEqual(walker.go(((1, HUGE), (0, 1))), follow(ODD, 0, "SR" * (HUGE % 6)))
            self.assertEqual(walker.total, ((1, HUGE), (0, 1)))
            self.assertEqual(walker.go(((1, -HUGE), (0, 1))), 0)
            self.assertEqual(walker.total, IDENTITY)

    def test_many_matrices(self):
        for kind in KINDS:
            word = long_word(True, 600, 3)
            walker = kind(CHAIN, place=60)
            self.assertEqual(walker.go(*[LETTERS[letter] for letter in word]), follow(CHAIN, 60, word))
            self.assertEqual(walker.total, of_letters(word))

    def test_wrong_matrix_behind_valid_ones_changes_nothing(self):
        for kind in KINDS:
            walker = kind(EVEN, place=1)
            walker.go(T, S)
            before = (walker.place, walker.total, ((T, S),))
            for value in WRONG_MATRICES:
                for call in [(value,), (T, value), (T, F, R, value), (value, T), (T, value, S), (value, value)]:
                    with self.assertRaises(BadMatrix):
                        walker.go(*call)
                    self.assert_state(walker, *before)


class Places(WalkerTest):
    def test_assignment_and_move_to(self):
        for kind in KINDS:
            walker = kind(EVEN)
            walker.go(T, F)
            total, history = walker.total, ((T, F),)
            for place in (1, 0, 2, 2):
                walker.place = place
                self.assert_state(walker, place, total, history)
            for place in (1, 0, 2, 2):
                self.assertIsNone(walker.move_to(place))
                self.assert_state(walker, place, total, history)
            self.assertIsNone(walker.move_to(place=1))
            self.assertEqual(walker.go(T), follow(EVEN, 1, "SR"))

    def test_refused(self):
        for kind in KINDS:
            walker = kind(EVEN, place=2)
            walker.go(F)
            before = (walker.place, walker.total, ((F,),))
            for value in WRONG_PLACES:
                with self.assertRaises(BadPlace) as caught:
                    walker.place = value
                self.assertIs(caught.exception.value, value)
                self.assert_state(walker, *before)
                with self.assertRaises(BadPlace) as caught:
                    walker.move_to(value)
                self.assertIs(caught.exception.value, value)
                self.assert_state(walker, *before)


class Letters(WalkerTest):
    def test_places_after_each_letter(self):
        for kind in KINDS:
            for floor in FEW + [CHAIN]:
                for word in words_up_to(5) + [long_word(False, 300, 9)]:
                    walker = kind(floor, place=len(floor[0]) - 1)
                    found = list(walker.letters(word))
                    self.assertEqual(found, [follow(floor, len(floor[0]) - 1, word[:at + 1]) for at in range(len(word))])
                    self.assert_state(walker, follow(floor, len(floor[0]) - 1, word), of_letters(word))

    def test_2000_letters(self):
        word = long_word(True, 2000, 4)
        walker = Walker(SCATTERED[10])
        self.assertEqual(list(walker.letters(word))[-1], follow(SCATTERED[10], 0, word))
        self.assertEqual(walker.total, of_letters(word))

    def test_goes_only_when_a_place_is_requested(self):
        for kind in KINDS:
            walker = kind(EVEN)
            steps = walker.letters("SrSR")
            self.assertTrue(inspect.isgenerator(steps))
            self.assert_state(walker, 0, IDENTITY)
            self.assertEqual(next(steps), 2)
            self.assert_state(walker, 2, S)
            self.assertEqual(next(steps), 1)
            self.assert_state(walker, 1, of_letters("Sr"))
            steps.close()
            self.assert_state(walker, 1, of_letters("Sr"))
            self.assertEqual(list(steps), [])
            self.assert_state(walker, 1, of_letters("Sr"))

    def test_from_the_place_at_which_the_walker_then_stands(self):
        for kind in KINDS:
            walker = kind(ODD)
            steps, others = walker.letters("SRSr"), walker.letters("rS")
            place, gone = 0, ""
            for letter, call in [("S", steps), ("r", others), ("R", steps)]:
                place, gone = follow(ODD, place, letter), gone + letter
                self.assertEqual(next(call), place)
                self.assert_state(walker, place, of_letters(gone))
            self.assertEqual(walker.go(T), follow(ODD, place, "SR"))
            place, gone = follow(ODD, follow(ODD, place, "SR"), "S"), gone + "SRS"
            self.assertEqual(next(steps), place)
            self.assert_state(walker, place, of_letters(gone), ((T,),))
            walker.move_to(6)
            self.assertEqual(next(others), follow(ODD, 6, "S"))
            walker.place = 1
            self.assertEqual(next(steps), follow(ODD, 1, "r"))
            self.assert_state(walker, follow(ODD, 1, "r"), of_letters(gone + "Sr"), ((T,),))
            self.assertEqual([list(steps), list(others)], [[], []])

    def test_undone_in_between(self):
        tracker = Tracker(ODD)
        tracker.go(F)
        steps = tracker.letters("SR")
        place = next(steps)
        tracker.undo()
        place = follow(ODD, place, back("Sr"))
        self.assert_state(tracker, place, of_letters("SrS" + back("Sr")))
        self.assertEqual(next(steps), follow(ODD, place, "R"))

    def test_a_rehearsal_in_between(self):
        walker = Walker(ODD)
        steps = walker.letters("SR")
        first = next(steps)
        self.assertEqual(walker.rehearse(T, F), (follow(ODD, first, "SR"), follow(ODD, first, "SRSr")))
        self.assertEqual(next(steps), follow(ODD, first, "R"))

    def test_not_recorded(self):
        tracker = Tracker(ODD)
        self.assertEqual(len(list(tracker.letters("SRSR"))), 4)
        self.assertEqual(tracker.history, ())

    def test_wrong_words_when_the_first_place_is_requested(self):
        for kind in KINDS:
            walker = kind(EVEN, place=1)
            for value, index in [("SS", 1), ("SRx", 2), ("x", 0), ("SR" * 1000 + "S", None), (None, None), (5, None),
                                 (["S"], None), (T, None)]:
                steps = walker.letters(value)
                with self.assertRaises(BadWord) as caught:
                    next(steps)
                self.assertEqual(caught.exception.index, index)
                self.assert_state(walker, 1, IDENTITY)
            self.assertEqual(list(walker.letters("")), [])
            self.assertEqual(list(walker.letters(word="R")), [2])


class Rehearse(WalkerTest):
    def test_places_after_each_matrix(self):
        for kind in KINDS:
            for floor in FEW + [CHAIN]:
                walker = kind(floor, place=len(floor[0]) // 2)
                walker.go(T)
                before = (walker.place, walker.total, ((T,),))
                ways = WAYS[:12]
                found = walker.rehearse(*[of_letters(way) for way in ways])
                self.assertEqual(found, tuple(follow(floor, before[0], "".join(ways[:at + 1])) for at in range(12)))
                self.assertIs(type(found), tuple)
                self.assert_state(walker, *before)

    def test_same_as_going(self):
        walker, other = Walker(ODD, place=3), Walker(ODD, place=3)
        matrices = [of_letters(way) for way in WAYS]
        self.assertEqual(walker.rehearse(*matrices), tuple([other.go(matrix) for matrix in matrices]))

    def test_without_matrices(self):
        for kind in KINDS:
            walker = kind(EVEN, place=1)
            self.assertEqual(walker.rehearse(), ())
            self.assert_state(walker, 1, IDENTITY)

    def test_wrong_matrix_behind_valid_ones(self):
        for kind in KINDS:
            walker = kind(EVEN, place=1)
            walker.go(T, F)
            before = (walker.place, walker.total, ((T, F),))
            for value in WRONG_MATRICES:
                for call in [(value,), (T, value), (T, F, R, value), (value, T), (T, value, S)]:
                    with self.assertRaises(BadMatrix):
                        walker.rehearse(*call)
                    self.assert_state(walker, *before)
            self.assertEqual(walker.go(S), follow(EVEN, before[0], "S"))


class History(WalkerTest):
    def test_calls(self):
        tracker = Tracker(EVEN)
        tracker.go()
        tracker.go(T)
        tracker.go(F, S, T)
        tracker.go()
        self.assertEqual(tracker.history, ((), (T,), (F, S, T), ()))
        self.assertEqual(len(tracker.rehearse(T, T)), 2)
        self.assertEqual(len(list(tracker.letters("SR"))), 2)
        tracker.place = 1
        tracker.move_to(2)
        self.assertEqual(tracker.history, ((), (T,), (F, S, T), ()))

    def test_an_earlier_history_stays_as_it_is(self):
        tracker = Tracker(EVEN)
        tracker.go(T)
        before = tracker.history
        tracker.go(F)
        tracker.undo(count=2)
        self.assertEqual((before, tracker.history), (((T,),), ()))


class Undo(WalkerTest):
    def assert_undone(self, tracker, calls, count):
        """Undo some of the calls, and compare with going by the letters of the inverses."""
        place, total = tracker.place, tracker.total
        self.assertIsNone(tracker.undo(count=count))
        words = [way for call in calls[len(calls) - count:] for way in call]
        rest = "".join(back(way) for way in words[::-1])
        self.assert_state(tracker, follow(tracker.floor, place, rest), multiplied([total, of_letters(rest)]),
                          tuple(tuple(of_letters(way) for way in call) for call in calls[:len(calls) - count]))

    def tracked(self, floor, calls, place=0):
        tracker = Tracker(floor, place=place)
        for call in calls:
            tracker.go(*[of_letters(way) for way in call])
        return tracker

    def test_counts(self):
        calls = [("SRS", "r"), (), ("RSRSr",), ("S", "R", "S", "r"), (), ("rSr",)]
        for floor in (EVEN, ODD, CHAIN, SCATTERED[4]):
            for count in range(len(calls) + 1):
                self.assert_undone(self.tracked(floor, calls), calls, count)
            tracker = self.tracked(floor, calls, place=len(floor[0]) - 1)
            tracker.undo(count=len(calls))
            self.assert_state(tracker, len(floor[0]) - 1, IDENTITY)

    def test_one_by_one(self):
        calls = [("SRS", "r"), (), ("RSRSr",), ("S", "R")]
        tracker = self.tracked(ODD, calls)
        for many in range(len(calls), 0, -1):
            self.assert_undone(tracker, calls[:many], 1)
        self.assert_state(tracker, 0, IDENTITY)

    def test_count_left_out(self):
        tracker = self.tracked(ODD, [("SR",), ("Sr",), ("S",)])
        self.assertIsNone(tracker.undo())
        self.assert_state(tracker, follow(ODD, 0, "SRSr"), multiplied([T, F]), ((T,), (F,)))

    def test_from_a_place_to_which_it_was_moved(self):
        calls = [("SRS", "r"), ("RSRSr",)]
        for place in range(7):
            for count in (0, 1, 2):
                tracker = self.tracked(ODD, calls)
                tracker.move_to(place)
                self.assert_undone(tracker, calls, count)
                tracker = self.tracked(ODD, calls)
                tracker.place = place
                self.assert_undone(tracker, calls, count)

    def test_total_after_letters(self):
        tracker = Tracker(ODD)
        tracker.go(T)
        self.assertEqual(len(list(tracker.letters("Sr"))), 2)
        place = tracker.place
        tracker.undo()
        self.assert_state(tracker, follow(ODD, place, back("SR")), multiplied([T, F, undone(T)]))
        self.assertNotEqual(tracker.total, F)

    def test_going_again(self):
        tracker = self.tracked(ODD, [("SR",), ("Sr",)])
        tracker.undo()
        tracker.go(S, R)
        self.assert_state(tracker, follow(ODD, 0, "SRSR"), multiplied([T, T]), ((T,), (S, R)))
        tracker.undo(count=2)
        self.assert_state(tracker, 0, IDENTITY)

    def test_order_of_the_inverses(self):
        tracker = self.tracked(zero_floor(11), [("SR", "Sr"), ("S", "R")], place=5)
        tracker.undo(count=2)
        self.assert_state(tracker, 5, IDENTITY)

    def test_too_many(self):
        for calls in [[], [()], [("SR",), ("Sr",)]]:
            tracker = self.tracked(ODD, calls)
            before = (tracker.place, tracker.total, tracker.history)
            for count in (len(calls) + 1, len(calls) + 2, HUGE):
                with self.assertRaises(NothingToUndo):
                    tracker.undo(count=count)
                self.assert_state(tracker, *before)
            tracker.undo(count=0)
            self.assert_state(tracker, *before)

    def test_wrong_counts(self):
        tracker = self.tracked(ODD, [("SR",), ("Sr",)])
        before = (tracker.place, tracker.total, tracker.history)
        for value in NO_INTEGERS + [-1, -2, -HUGE]:
            for some in (tracker, Tracker(EVEN)):
                with self.assertRaises(BadNumber) as caught:
                    some.undo(count=value)
                self.assertIs(caught.exception.value, value)
            self.assert_state(tracker, *before)
        with self.assertRaises(TypeError):
            tracker.undo(1)


class Separate(WalkerTest):
    def test_walkers_of_one_floor(self):
        one, other = Tracker(ODD), Tracker(ODD)
        third = Walker(ODD, place=3)
        one.go(T, F)
        other.go(S)
        self.assert_state(third, 3, IDENTITY)
        self.assert_state(other, follow(ODD, 0, "S"), S, ((S,),))
        one.undo()
        self.assert_state(other, follow(ODD, 0, "S"), S, ((S,),))
        one.place = 5
        self.assert_state(third, 3, IDENTITY)

    def test_what_is_passed_is_not_modified(self):
        floor = ((2, 3, 0, 1, 6, 5, 4), (1, 2, 0, 4, 5, 3, 6))
        matrices = [T, F, S]
        tracker = Tracker(floor)
        tracker.go(*matrices)
        self.assertEqual(len(tracker.rehearse(*matrices)), 3)
        self.assertEqual(len(list(tracker.letters("SR"))), 2)
        tracker.undo()
        self.assertEqual((floor, matrices), (((2, 3, 0, 1, 6, 5, 4), (1, 2, 0, 4, 5, 3, 6)), [T, F, S]))
        self.assertIs(tracker.floor, floor)

    def test_equal_calls_have_equal_results(self):
        for kind in KINDS:
            rows = []
            for _ in range(2):
                walker = kind(CHAIN, place=7)
                rows.append(([walker.go(of_letters(way)) for way in WAYS], list(walker.letters("SRSr")),
                             walker.rehearse(T, R), walker.total))
            self.assertEqual(rows[0], rows[1])


if __name__ == "__main__":
    unittest.main()
