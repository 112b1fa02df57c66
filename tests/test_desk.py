"""Points 35 to 39: the desk."""

import unittest

from surelydone.deeds import Deeds
from surelydone.desk import Desk
from surelydone.errors import BadDiligent, BadWords, NothingDone, TooMany
from surelydone.hands import Hand
from surelydone.reveals import reveals
from surelydone.systems import System
from tests.helpers import (
    Checks, bad_names, deep_values, door, guard, nested, other_values, rows_that_are_wrong_items,
)
from tests.samples import Draw, both, drawn_systems, lazy, widest

ASKED = {"seen": ["ask"], "wanted": ["open"]}


def three(diligent=None):
    return System([door(), guard(), Hand.ring(["walk"])], diligent)


def read(desk):
    """What the desk tells of each of its hands."""
    return [desk[hand] for hand in range(len(desk.system.hands))]


def put(desk, hand, flag):
    desk[hand] = flag


def told_back(desk):
    """Take back all deeds, and tell the diligent hands from before each of them."""
    found = []
    for _ in range(10000):
        try:
            desk.undo()
        except NothingDone:
            return found
        found.append(desk.system.diligent)
    raise AssertionError("there is always one more deed to take back")


def wrong_hands():
    """Values that are no index of a hand of a system of three hands."""
    return other_values() + rows_that_are_wrong_items() + deep_values() + [
        -1, -2, -3, 3, 4, 99, 10 ** 30, -10 ** 30, "0", slice(0, 1), slice(None), (0, 1), nested(tuple, 500),
    ]


def wrong_flags():
    return [value for value in other_values() + rows_that_are_wrong_items() + deep_values() + [0, 1, -1, 2]
            if value is not True and value is not False]


def wrong_rows():
    """Rows that do not tell diligent hands of a system of three hands, each with what is wrong about them."""
    found = [([value], value) for value in wrong_hands()]
    found += [((0, value, None), value) for value in wrong_hands()]
    # Where the row has the hand before, it is the second one that is wrong.
    found += [([0, 0], 0), ([2, 1, 2], 2), ((0, 1, 2, 0), 0), ([1, 3, -1], 3), ((1, -1, 3), -1), ([True], True)]
    found += [(value, value) for value in other_values() if value is not None]
    return found + [(0, 0), (1, 1), ("01", "01")]


class Reads(Checks):
    def test_the_diligent_hands_of_the_system_at_first(self):
        for chosen in (None, [], [0], [2, 0], [1]):
            system = three(chosen)
            desk = Desk(system)
            self.assertEqual(read(desk), [hand in system.diligent for hand in range(3)])
            self.assertEqual({type(flag) for flag in read(desk)}, {bool})
            self.assertEqual(desk.system, system)
            self.assertIs(type(desk.system), System)
            self.assertEqual(Desk(system=system).system, system)

    def test_one_hand_and_four_hands(self):
        self.assertEqual(read(Desk(System([door()]))), [True])
        self.assertEqual(read(Desk(System([door()] * 4, [3, 1]))), [False, True, False, True])

    def test_assignments(self):
        desk = Desk(three([1]))
        for hand, flag, found in [(0, True, (0, 1)), (1, False, (0,)), (2, True, (0, 2)), (2, True, (0, 2)),
                                  (1, False, (0, 2)), (0, False, (2,)), (2, False, ()), (1, True, (1,))]:
            desk[hand] = flag
            self.assertEqual(desk.system.diligent, found)
            self.assertEqual(read(desk), [at in found for at in range(3)])
            self.assertEqual(desk.system, three(list(found)))

    def test_the_system_that_was_passed_never_changes(self):
        system = three([1])
        desk, other = Desk(system), Desk(system)
        desk[0] = True
        desk.choose([2])
        desk.trying(lambda one: one.choose([]))
        self.assertEqual((system, system.diligent), (three([1]), (1,)))
        self.assertEqual(other.system, three([1]))
        self.check_error_of_undo(other)
        desk.undo()
        self.assertEqual(system, three([1]))

    def check_error_of_undo(self, desk):
        with self.assertRaises(NothingDone):
            desk.undo()

    def test_a_system_that_was_read_stays_as_it_was(self):
        desk = Desk(three())
        before = desk.system
        desk[1] = False
        between = desk.system
        desk.choose([1])
        self.assertEqual((before, between, desk.system), (three(), three([0, 2]), three([1])))
        desk.undo()
        self.assertEqual((before, between, desk.system), (three(), three([0, 2]), three([0, 2])))

    def test_wrong_hands(self):
        desk = Desk(three([1]))
        for value in wrong_hands():
            self.check_error(BadDiligent, value, lambda: desk[value])
            self.check_error(BadDiligent, value, put, desk, value, True)
            self.check_error(BadDiligent, value, put, desk, value, False)
        self.assertEqual((desk.system, told_back(desk)), (three([1]), []))

    def test_the_edges_of_indexes(self):
        desk = Desk(System([door()]))
        self.assertIs(desk[0], True)
        for value in (-1, 1, False, True, 0.0, None, "0"):
            self.check_error(BadDiligent, value, lambda: desk[value])
            self.check_error(BadDiligent, value, put, desk, value, False)
        self.assertIs(Desk(System([door()] * 4))[3], True)
        self.check_error(BadDiligent, 4, lambda: Desk(System([door()] * 4))[4])

    def test_wrong_flags(self):
        desk = Desk(three([1]))
        for value in wrong_flags():
            self.check_error(BadDiligent, value, put, desk, 0, value)
            self.check_error(BadDiligent, value, put, desk, 1, value)
        self.assertEqual((desk.system, told_back(desk)), (three([1]), []))

    def test_a_wrong_hand_comes_before_a_wrong_flag(self):
        desk = Desk(three([1]))
        for hand in (-1, 3, True, None, "a", [0]):
            for flag in (0, 1, None, "b", [True]):
                self.check_error(BadDiligent, hand, put, desk, hand, flag)

    def test_a_desk_is_not_iterated_over(self):
        desk = Desk(three())
        for call in (iter, list, tuple, sorted, lambda one: [flag for flag in one], lambda one: True in one,
                     lambda one: [*one]):
            with self.assertRaises(TypeError):
                call(desk)


class Chooses(Checks):
    def test_rows(self):
        desk = Desk(three([1]))
        for row, found in [([], ()), ([2, 0], (0, 2)), ((0,), (0,)), (None, (0, 1, 2)), ((2, 1, 0), (0, 1, 2)),
                           ([1], (1,))]:
            self.assertIs(desk.choose(row), None)
            self.assertEqual(desk.system, three(list(found)))
            self.assertEqual(desk.system.diligent, found)
            self.assertEqual(read(desk), [at in found for at in range(3)])
        self.assertIs(desk.choose(row=[0, 2]), None)
        self.assertEqual(read(desk), [True, False, True])

    def test_a_list_that_is_changed_later(self):
        desk, row = Desk(three()), [2]
        desk.choose(row)
        self.assertEqual(row, [2])
        row.append(0)
        row[0] = "no"
        self.assertEqual(desk.system.diligent, (2,))
        self.assertEqual(read(desk), [False, False, True])

    def test_wrong_rows(self):
        desk = Desk(three([1]))
        for row, value in wrong_rows():
            self.check_error(BadDiligent, value, desk.choose, row)
            self.check_error(BadDiligent, value, desk.choose, row=row)
        for value in (Deeds(), Deeds(["ask"]), True, False, 0, {0: True}, {0}, "0", range(2), three()):
            self.check_error(BadDiligent, value, desk.choose, value)
        self.assertEqual((desk.system, told_back(desk)), (three([1]), []))


class Answers(Checks):
    def test_the_diligent_hands_now_count(self):
        desk = Desk(both())
        self.assertIs(desk.reveals(**ASKED), True)
        desk[0] = False
        self.assertIs(desk.reveals(**ASKED), False)
        desk.choose([0])
        self.assertIs(desk.reveals(**ASKED), True)
        desk.undo()
        self.assertIs(desk.reveals(**ASKED), False)
        desk.undo()
        self.assertIs(desk.reveals(**ASKED), True)
        self.assertIs(desk.trying(lambda one: put(one, 0, False) or one.reveals(**ASKED)), False)
        self.assertIs(desk.reveals(**ASKED), True)

    def test_words_of_every_kind(self):
        desk = Desk(lazy())
        for seen in (["ask"], ("ask", "ask"), Deeds(["ask"])):
            for wanted in (["open", "rest"], ("rest", "open"), Deeds(["open", "rest"])):
                self.assertIs(desk.reveals(seen=seen, wanted=wanted), True)
        self.assertIs(desk.reveals(wanted=["ask", "rest"]), True)
        self.assertIs(desk.reveals(wanted=["ask"]), False)
        self.assertIs(desk.reveals(seen=["none"], wanted=[]), True)

    def test_it_is_reveals_of_the_system(self):
        draw = Draw(100)
        for system in drawn_systems(60, 101):
            desk = Desk(system)
            for _ in range(4):
                desk[draw.below(len(system.hands))] = draw.of([True, False])
                seen, wanted = draw.some(system.words, 2), draw.some(system.words, 2)
                self.assertIs(desk.reveals(seen=seen, wanted=wanted), reveals(desk.system, seen=seen, wanted=wanted))

    def test_words_by_name_only(self):
        desk = Desk(both())
        for call in (lambda: desk.reveals(["ask"], ["open"]), lambda: desk.reveals(["ask"], wanted=["open"]),
                     lambda: desk.reveals(seen=["ask"]), lambda: desk.reveals()):
            with self.assertRaises(TypeError):
                call()

    def test_wrong_words(self):
        desk = Desk(both())
        for value in [value for value in other_values() if not isinstance(value, Deeds)] + [0, "ask"]:
            self.check_error(BadWords, value, desk.reveals, seen=value, wanted=["A"])
            self.check_error(BadWords, value, desk.reveals, seen=["ask"], wanted=value)
        for item in bad_names() + deep_values():
            self.check_error(BadWords, item, desk.reveals, seen=["ask", item], wanted=["B"])
            self.check_error(BadWords, item, desk.reveals, wanted=["ask", item, None])
        self.assertEqual((desk.system, told_back(desk)), (both(), []))

    def test_too_many(self):
        desk = Desk(widest())
        self.check_error(TooMany, 1000, desk.reveals, wanted=[])
        self.check_error(BadWords, "A", desk.reveals, seen=["a"], wanted=["A"])
        self.assertIs(desk.reveals(wanted=["a", "b"]), True)


class Undoes(Checks):
    def test_nothing_was_done(self):
        desk = Desk(three([1]))
        for _ in range(3):
            with self.assertRaises(NothingDone) as caught:
                desk.undo()
            self.assertEqual(vars(caught.exception), {})
            self.assertEqual(desk.system, three([1]))

    def test_deed_by_deed(self):
        desk = Desk(three([1]))
        desk[0] = True
        desk.choose([2])
        desk[2] = False
        desk.choose(None)
        for found in ((), (2,), (0, 1), (1,)):
            self.assertIs(desk.undo(), None)
            self.assertEqual(desk.system, three(list(found)))
            self.assertEqual(read(desk), [at in found for at in range(3)])
        with self.assertRaises(NothingDone):
            desk.undo()

    def test_deeds_that_change_nothing(self):
        desk = Desk(three([1]))
        desk[1] = True
        desk[0] = False
        desk.choose([1])
        desk.choose((1,))
        desk[2] = True
        desk[2] = True
        self.assertEqual(told_back(desk), [(1, 2), (1,), (1,), (1,), (1,), (1,)])

    def test_refused_deeds_are_no_deeds(self):
        desk = Desk(three([1]))
        desk[0] = True
        for call in (lambda: put(desk, 3, True), lambda: put(desk, 0, 1), lambda: desk.choose([0, 0]),
                     lambda: desk.choose("0"), lambda: put(desk, True, True)):
            with self.assertRaises(BadDiligent):
                call()
            self.assertEqual(desk.system, three([0, 1]))
        with self.assertRaises(BadWords):
            desk.reveals(wanted="a")
        self.assertEqual(told_back(desk), [(1,)])

    def test_reading_and_asking_are_no_deeds(self):
        desk = Desk(three([1]))
        self.assertIs(desk[1], True)
        self.assertEqual(desk.system, three([1]))
        self.assertIs(desk.reveals(wanted=["walk", "rest", "open"]), True)
        self.assertEqual(told_back(desk), [])

    def test_deeds_after_an_undo(self):
        desk = Desk(three([]))
        desk[0] = True
        desk[1] = True
        desk.undo()
        desk[2] = True
        self.assertEqual(desk.system.diligent, (0, 2))
        self.assertEqual(told_back(desk), [(0,), ()])

    def test_many_deeds(self):
        desk = Desk(three([]))
        for at in range(3000):
            desk[at % 3] = at % 2 == 0
        found = told_back(desk)
        self.assertEqual((len(found), found[-1], desk.system), (3000, (), three([])))


class Tries(Checks):
    def begun(self):
        """A desk with two deeds: at first (1,), then (0, 1), now (0,)."""
        desk = Desk(three([1]))
        desk[0] = True
        desk[1] = False
        return desk

    def check_as_begun(self, desk):
        self.assertEqual(desk.system, three([0]))
        self.assertEqual(read(desk), [True, False, False])
        self.assertEqual(told_back(desk), [(0, 1), (1,)])
        self.assertEqual(desk.system, three([1]))

    def test_it_is_called_once_with_the_same_desk(self):
        desk, called = self.begun(), []
        self.assertIs(desk.trying(called.append), None)
        self.assertEqual(len(called), 1)
        self.assertIs(called[0], desk)
        self.check_as_begun(desk)

    def test_what_the_deed_returns(self):
        desk = self.begun()
        for value in other_values() + rows_that_are_wrong_items() + deep_values() + [desk, desk.system]:
            self.assertIs(desk.trying(lambda one: value), value)
            self.assertIs(desk.trying(deed=lambda one: value), value)
        self.check_as_begun(desk)

    def test_assignments_and_choices(self):
        desk = self.begun()

        def deed(one):
            one[2] = True
            one[0] = False
            one.choose(None)
            one.choose([1, 2])
            return read(one), one.system, one.reveals(wanted=["walk"])

        self.assertEqual(desk.trying(deed), ([False, True, True], three([1, 2]), True))
        self.check_as_begun(desk)

    def test_deeds_from_before_the_call_are_taken_back(self):
        for times in (1, 2):
            desk = self.begun()

            def deed(one):
                for _ in range(times):
                    one.undo()
                return one.system

            self.assertEqual(desk.trying(deed), three([[0, 1], [1]][times - 1]))
            self.check_as_begun(desk)

    def test_all_is_taken_back_and_other_deeds_are_done(self):
        desk = self.begun()

        def deed(one):
            found = told_back(one)
            one.choose([2])
            one[1] = True
            one.undo()
            one.choose([])
            return found

        self.assertEqual(desk.trying(deed), [(0, 1), (1,)])
        self.check_as_begun(desk)

    def test_with_no_deeds_before(self):
        desk = Desk(three([1]))
        desk.trying(lambda one: one.choose([0, 2]))
        self.assertEqual((desk.system, told_back(desk)), (three([1]), []))

    def test_deeds_that_are_kept_out_of_the_call(self):
        desk, held = self.begun(), []
        desk.trying(held.append)
        held[0].choose([2])
        self.assertEqual(told_back(desk), [(0,), (0, 1), (1,)])

    def test_trying_inside_trying(self):
        desk = self.begun()

        def inner(one):
            one.undo()
            one.undo()
            one.choose([2])
            return one.system.diligent

        def outer(one):
            one[2] = True
            first = one.trying(inner)
            middle = one.system.diligent
            one.undo()
            second = one.trying(lambda same: same.trying(inner) + same.system.diligent)
            return first, middle, second, one.system.diligent

        self.assertEqual(desk.trying(outer), ((2,), (0, 2), (2, 0), (0,)))
        self.check_as_begun(desk)

    def test_trying_that_calls_itself(self):
        desk = self.begun()

        def deeper(many):
            def deed(one):
                one[2] = many % 2 == 0
                one.undo()
                one.undo()
                inside = one.trying(deeper(many - 1)) if many else 0
                one.choose([many % 3])
                return inside + 1
            return deed

        with self.assertRaises(NothingDone):
            desk.trying(deeper(5))
        self.check_as_begun(desk)

        def only_deeper(many):
            return lambda one: put(one, 2, many % 2 == 0) or (one.trying(only_deeper(many - 1)) + 1 if many else 0)

        desk = self.begun()
        self.assertEqual(desk.trying(only_deeper(100)), 100)
        self.check_as_begun(desk)

    def test_the_same_exception_comes_through(self):
        class Odd(BaseException):
            pass

        for error in (ValueError("a"), BadDiligent(5), NothingDone(), TooMany(1000), KeyError(1), StopIteration(),
                      GeneratorExit(), KeyboardInterrupt(), SystemExit(3), AssertionError(), Odd(), RecursionError()):
            desk = self.begun()

            def deed(one):
                one.undo()
                one.choose([1, 2])
                raise error

            with self.assertRaises(type(error)) as caught:
                desk.trying(deed)
            self.assertIs(caught.exception, error)
            self.check_as_begun(desk)

    def test_an_error_of_the_desk_itself(self):
        desk = self.begun()
        self.check_error(BadDiligent, "a", desk.trying, lambda one: put(one, 1, True) or put(one, "a", True))
        self.check_error(BadDiligent, 7, desk.trying, lambda one: one.undo() or one.choose([2, 7]))
        self.check_error(BadWords, "A", desk.trying, lambda one: one.choose([]) or one.reveals(wanted=["A"]))
        with self.assertRaises(NothingDone):
            desk.trying(lambda one: [one.undo() for _ in range(3)])
        self.check_as_begun(desk)

    def test_an_exception_in_a_call_inside(self):
        desk = self.begun()

        def inner(one):
            told_back(one)
            raise KeyError("inner")

        def outer(one):
            one.choose([1, 2])
            with self.assertRaises(KeyError):
                one.trying(inner)
            return one.system.diligent, told_back(one)

        self.assertEqual(desk.trying(outer), ((1, 2), [(0,), (0, 1), (1,)]))
        self.check_as_begun(desk)

    def test_two_desks(self):
        desk, other = self.begun(), self.begun()
        desk.trying(lambda one: other.choose([2]))
        self.check_as_begun(desk)
        self.assertEqual((other.system, told_back(other)), (three([2]), [(0,), (0, 1), (1,)]))


class Drawn(Checks):
    """The desk beside a list of rows that the test keeps itself."""

    def play(self, draw, desk, rows, depth):
        """Do some drawn deeds on the desk and on the list of rows, whose last one tells the diligent hands now."""
        for _ in range(12):
            self.assertEqual(list(desk.system.diligent), rows[-1])
            kind = draw.below(5)
            if kind == 0:
                hand, flag = draw.below(3), draw.below(2) == 0
                desk[hand] = flag
                rows.append([at for at in range(3) if (flag if at == hand else at in rows[-1])])
            elif kind == 1:
                row = [at for at in (2, 0, 1) if draw.below(2)]
                desk.choose(row)
                rows.append(sorted(row))
            elif kind == 2 and len(rows) > 1:
                desk.undo()
                rows.pop()
            elif kind == 2:
                with self.assertRaises(NothingDone):
                    desk.undo()
            elif kind == 3:
                with self.assertRaises(BadDiligent):
                    desk.choose(draw.of([[3], [0, 0], [True], "a"]))
            elif depth:
                desk.trying(lambda one: self.play(draw, one, list(rows), depth - 1))

    def test_drawn_deeds(self):
        draw = Draw(102)
        for _ in range(60):
            desk, rows = Desk(three([1])), [[1]]
            self.play(draw, desk, rows, 3)
            self.assertEqual([list(row) for row in told_back(desk)], rows[:-1][::-1])


if __name__ == "__main__":
    unittest.main()
