"""Points 12 and 13, and points 2 to 5 as far as deeds go; points 8, 9 and 11 where a Deeds is another kind."""

import unittest

from surelydone.deeds import Deeds
from surelydone.errors import BadDiligent, BadHands, BadState, BadSteps, BadWords
from surelydone.hands import Hand
from surelydone.systems import System
from tests.helpers import Checks, bad_names, deep_values, door, guard, other_values, rows_that_are_wrong_items

OPERATIONS = {
    "or": lambda one, other: one | other,
    "and": lambda one, other: one & other,
    "minus": lambda one, other: one - other,
}


def or_in_place(deeds, other):
    deeds |= other
    return deeds


def and_in_place(deeds, other):
    deeds &= other
    return deeds


def minus_in_place(deeds, other):
    deeds -= other
    return deeds


IN_PLACE = {"or": or_in_place, "and": and_in_place, "minus": minus_in_place}

# For each pair of sets of names: those in either, in both, and in the first alone.
RESULTS = [
    ("", "", "", "", ""),
    ("ab", "", "ab", "", "ab"),
    ("", "ab", "ab", "", ""),
    ("ab", "ab", "ab", "ab", ""),
    ("ba", "bc", "abc", "b", "a"),
    ("zb", "da", "abdz", "", "bz"),
    ("abc", "b", "abc", "b", "ac"),
    ("b", "cba", "abc", "b", ""),
]


def no_words():
    """Values that are neither rows nor deeds."""
    return [value for value in other_values() if not isinstance(value, Deeds)] + [0, 1, 7, -1]


def takers():
    """All that takes a row of names or deeds, as functions of this one argument."""
    deeds = Deeds(["ask"])
    return [
        Deeds, deeds.within,
        lambda other: deeds | other, lambda other: deeds & other, lambda other: deeds - other,
        lambda other: or_in_place(Deeds(["ask"]), other), lambda other: and_in_place(Deeds(["ask"]), other),
        lambda other: minus_in_place(Deeds(["ask"]), other),
    ]


def takers_on_the_right():
    """The operators with the deeds on the right."""
    deeds = Deeds(["ask"])
    return [lambda other: other | deeds, lambda other: other & deeds, lambda other: other - deeds]


def has_operators(value):
    """The views of a dict have | & - of their own, which want to go over the other operand."""
    return isinstance(value, type({}.keys()))


class Makes(Checks):
    def test_of_a_list_a_tuple_deeds_and_nothing(self):
        for words in (["open", "ask"], ("ask", "open"), Deeds(["ask", "open"]), ["ask", "open", "ask"]):
            self.assertEqual(Deeds(words).names(), ["ask", "open"])
            self.assertEqual(Deeds(words=words).names(), ["ask", "open"])
        for deeds in (Deeds(), Deeds([]), Deeds(()), Deeds(Deeds())):
            self.assertEqual(deeds.names(), [])

    def test_names_twice_count_once(self):
        self.assertEqual(Deeds(["b", "a", "b", "b", "a"]).names(), ["a", "b"])
        self.assertEqual(len(Deeds(["a"] * 5000)), 1)

    def test_shortest_and_longest_names(self):
        self.assertEqual(Deeds(["z", "a" * 12, "a"]).names(), ["a", "a" * 12, "z"])

    def test_many_names(self):
        many = [one + two + three for one in "abcdefghij" for two in "klmnopqrst" for three in "uvwxyz"]
        self.assertEqual(Deeds(many[::-1]).names(), sorted(many))
        self.assertEqual(len(Deeds(many) | Deeds(["a"])), 601)

    def test_what_was_passed_is_copied_and_not_changed(self):
        row = ["open", "ask", "ask"]
        deeds = Deeds(row)
        self.assertEqual(row, ["open", "ask", "ask"])
        row.append("rest")
        row[0] = 7
        self.assertEqual(deeds.names(), ["ask", "open"])

    def test_deeds_of_deeds_are_other_deeds(self):
        one = Deeds(["ask"])
        other = Deeds(one)
        one |= ["open"]
        self.assertEqual(other.names(), ["ask"])
        other -= ["ask"]
        self.assertEqual(one.names(), ["ask", "open"])

    def test_nothing_is_shared_by_deeds_of_nothing(self):
        one = Deeds()
        one |= ["ask"]
        self.assertEqual(Deeds().names(), [])


class WrongWords(Checks):
    def test_values_that_are_no_row(self):
        for value in no_words():
            for call in takers():
                self.check_error(BadWords, value, call, value)

    def test_values_that_are_no_row_on_the_left(self):
        for value in no_words():
            for call in takers_on_the_right():
                if not has_operators(value):
                    self.check_error(BadWords, value, call, value)

    def test_items_that_are_no_names(self):
        for item in bad_names():
            for call in takers() + takers_on_the_right():
                self.check_error(BadWords, item, call, [item])
                self.check_error(BadWords, item, call, ("ask", item, None, "A"))

    def test_the_edges_of_names_by_name(self):
        for item in (True, 5, None, "", "abcdefghijklm", "A", Deeds(["ask"]), ["ask"], ("ask",), door()):
            self.check_error(BadWords, item, Deeds, ["ask", "open", item])

    def test_rows_are_asked(self):
        for value in ("ask", {"ask": True}, {"ask"}, door(), System([door()]), None, b"ask", iter(["ask"])):
            self.check_error(BadWords, value, Deeds, value)
            self.check_error(BadWords, value, Deeds().within, value)

    def test_the_whole_and_the_first_item_count(self):
        self.check_error(BadWords, wrong := {"A": 1}, Deeds, wrong)
        self.check_error(BadWords, "A", Deeds, ["a", "A", "", None])
        self.check_error(BadWords, "", Deeds, ["a", "", "A", None])

    def test_a_bad_item_counts_also_where_it_would_not_matter(self):
        for call in (lambda: Deeds() & ["a", 5], lambda: Deeds() - ["a", 5], lambda: ["a", 5] & Deeds(),
                     lambda: ["a", 5] - Deeds(["a"]), lambda: Deeds().within(["a", 5])):
            self.check_error(BadWords, 5, call)


class Operators(Checks):
    def test_two_deeds_and_a_row_on_either_side(self):
        for one, other, *expected in RESULTS:
            for left, right in [
                (Deeds(list(one)), Deeds(list(other))), (Deeds(list(one)), list(other)),
                (Deeds(list(one)), tuple(other)), (list(one), Deeds(list(other))), (tuple(one), Deeds(list(other))),
                (Deeds(list(one)), list(other) * 2), (tuple(one) * 2, Deeds(list(other))),
            ]:
                for name, result in zip(OPERATIONS, expected):
                    found = OPERATIONS[name](left, right)
                    self.assertIs(type(found), Deeds)
                    self.assertEqual(found.names(), list(result))

    def test_operands_are_not_changed_and_the_result_is_new(self):
        for operation in OPERATIONS.values():
            one, other, row = Deeds(["a", "b"]), Deeds(["b", "c"]), ["c", "b", "b"]
            for found in (operation(one, other), operation(one, row), operation(row, one), operation(one, Deeds())):
                found |= ["z"]
                found &= ["z"]
            self.assertEqual((one, other, row), (Deeds(["a", "b"]), Deeds(["b", "c"]), ["c", "b", "b"]))

    def test_deeds_with_themselves(self):
        deeds = Deeds(["a", "b"])
        self.assertEqual((deeds | deeds).names(), ["a", "b"])
        self.assertEqual((deeds & deeds).names(), ["a", "b"])
        self.assertEqual((deeds - deeds).names(), [])
        self.assertIsNot(deeds | deeds, deeds)
        self.assertIsNot(deeds & deeds, deeds)

    def test_several_signs(self):
        self.assertEqual((["a"] | Deeds(["b"]) | ("c",)).names(), ["a", "b", "c"])
        self.assertEqual((Deeds(["a", "b"]) - (["a"] & Deeds(["b"]))).names(), ["a", "b"])


class InPlace(Checks):
    def test_the_object_itself_changes(self):
        for one, other, *expected in RESULTS:
            for right in (Deeds(list(other)), list(other), tuple(other) * 2):
                for name, result in zip(IN_PLACE, expected):
                    deeds = Deeds(list(one))
                    second = deeds
                    self.assertIs(IN_PLACE[name](deeds, right), deeds)
                    self.assertEqual(second.names(), list(result))
                    self.assertEqual(sorted(right if isinstance(right, (list, tuple)) else right.names()),
                                     sorted(other * 2 if isinstance(right, tuple) else other))

    def test_every_variable_sees_the_change(self):
        deeds = Deeds(["a"])
        second, held = deeds, [deeds]
        deeds |= ["b"]
        self.assertIs(deeds, second)
        self.assertEqual(held[0].names(), ["a", "b"])
        held[0] -= ["a"]
        self.assertEqual(deeds.names(), ["b"])
        second &= ()
        self.assertEqual(deeds.names(), [])

    def test_with_the_object_itself(self):
        for change, result in [(or_in_place, ["a", "b"]), (and_in_place, ["a", "b"]), (minus_in_place, [])]:
            deeds = Deeds(["b", "a"])
            self.assertIs(change(deeds, deeds), deeds)
            self.assertEqual(deeds.names(), result)

    def test_later_changes_of_the_other_have_no_effect(self):
        for change in IN_PLACE.values():
            deeds, other, row = Deeds(["a", "b"]), Deeds(["b", "c"]), ["b"]
            change(deeds, other)
            change(deeds, row)
            before = deeds.names()
            other |= ["x"]
            other -= ["b", "c"]
            row.append("y")
            self.assertEqual(deeds.names(), before)
            deeds |= ["z"]
            self.assertNotIn("z", other)

    def test_a_wrong_row_changes_nothing(self):
        for change in IN_PLACE.values():
            for wrong in [["c", "A"], ("b", None), ["A", "b"], "b", None, {"b": 1}, 5, door()] + deep_values():
                deeds = Deeds(["a", "b"])
                with self.assertRaises(BadWords):
                    change(deeds, wrong)
                self.assertEqual(deeds.names(), ["a", "b"])

    def test_a_wrong_row_leaves_the_variable_as_it_is(self):
        deeds = second = Deeds(["a"])
        with self.assertRaises(BadWords):
            deeds |= ["b", ""]
        self.assertIs(deeds, second)
        self.assertEqual(second.names(), ["a"])

    def test_a_row_on_the_left_becomes_new_deeds(self):
        row = ["a", "b"]
        other, deeds = row, Deeds(["b", "c"])
        row -= deeds
        self.assertEqual(row, Deeds(["a"]))
        self.assertEqual(other, ["a", "b"])
        self.assertEqual(deeds.names(), ["b", "c"])


class Asks(Checks):
    def test_within(self):
        for one, other, found in [
            ("", "", True), ("", "a", True), ("a", "", False), ("a", "a", True), ("ab", "cba", True),
            ("abc", "ab", False), ("a", "b", False),
        ]:
            deeds = Deeds(list(one))
            for row in (list(other), tuple(other), Deeds(list(other)), list(other) * 2):
                self.assertIs(deeds.within(row), found)
                self.assertIs(deeds.within(other=row), found)
            self.assertIs(deeds.within(deeds), True)

    def test_names_are_a_new_list_each_time(self):
        deeds = Deeds(["b", "a"])
        names = deeds.names()
        self.assertIs(type(names), list)
        names.append("c")
        names[0] = None
        self.assertEqual(deeds.names(), ["a", "b"])
        self.assertIsNot(deeds.names(), deeds.names())

    def test_len_and_bool(self):
        for words, many in [([], 0), (["a"], 1), (["a", "a"], 1), (["c", "a", "b"], 3)]:
            self.assertEqual(len(Deeds(words)), many)
            self.assertIs(bool(Deeds(words)), many > 0)

    def test_in(self):
        deeds = Deeds(["ask", "open"])
        for name, found in [("ask", True), ("open", True), ("as", False), ("askopen", False), ("rest", False)]:
            self.assertIs(name in deeds, found)
            self.assertIs(name not in deeds, not found)
        self.assertNotIn("ask", Deeds())

    def test_in_with_values_of_other_kinds(self):
        deeds = Deeds(["asks"])
        for value in other_values() + rows_that_are_wrong_items() + bad_names() + [0, deeds, ["asks"], ("asks",)]:
            self.assertIs(value in deeds, False)
        self.assertNotIn(b"asks", deeds)


class Equal(Checks):
    def test_equal_deeds(self):
        self.same(Deeds(["a", "b"]), Deeds(("b", "a", "b")))
        self.same(Deeds(), Deeds([]))
        deeds = Deeds(["a"])
        self.same(deeds, deeds)
        self.same(deeds, Deeds(deeds))

    def test_other_names(self):
        self.different(Deeds(["a"]), Deeds())
        self.different(Deeds(["a"]), Deeds(["a", "b"]))
        self.different(Deeds(["a", "c"]), Deeds(["a", "b"]))

    def test_after_changes(self):
        deeds, other = Deeds(["b"]), Deeds(["a", "b"])
        deeds |= ["a"]
        self.same(deeds, other)
        other -= ["b"]
        self.different(deeds, other)

    def test_equal_to_no_row_and_nothing_else(self):
        for deeds in (Deeds(), Deeds(["ask"])):
            names = deeds.names()
            rows = [names, tuple(names), set(names), frozenset(names), {name: True for name in names}, str(names)]
            others = [value for value in other_values() if not isinstance(value, Deeds)]
            for value in rows + others + rows_that_are_wrong_items() + [0, 1]:
                self.different(deeds, value)

    def test_no_order(self):
        for other in (Deeds(["a"]), ["a"], ("a",), 5):
            for compare in (lambda one, two: one < two, lambda one, two: one <= two,
                            lambda one, two: one > two, lambda one, two: one >= two):
                with self.assertRaises(TypeError):
                    compare(Deeds(["a"]), other)
                with self.assertRaises(TypeError):
                    compare(other, Deeds(["a"]))


class AnotherKind(Checks):
    """A Deeds is neither a row, nor a hand, nor a system."""

    def test_no_row(self):
        for deeds in (Deeds(), Deeds(["ask"])):
            self.check_error(BadSteps, -1, Hand, 0, deeds)
            self.check_error(BadState, deeds, Hand, deeds, [(0, "a", 0)])
            self.check_error(BadWords, deeds, Hand.ring, deeds)
            self.check_error(BadHands, -1, System, deeds)
            self.check_error(BadDiligent, deeds, System, [door()], deeds)
            self.check_error(BadDiligent, deeds, System([door()]).with_diligent, deeds)

    def test_no_item(self):
        deeds = Deeds(["ask"])
        self.check_error(BadSteps, 1, Hand, 0, [(0, "a", 0), deeds])
        self.check_error(BadSteps, 0, Hand, 0, [(0, deeds, 0)])
        self.check_error(BadWords, deeds, Hand.ring, ["ask", deeds])
        self.check_error(BadHands, 1, System, [door(), deeds])
        self.check_error(BadDiligent, deeds, System, [door()], [0, deeds])

    def test_no_operand_of_systems(self):
        system = System([door(), guard()])
        for deeds in (Deeds(), Deeds(["ask"])):
            self.check_error(BadHands, -1, lambda: system + deeds)
            self.check_error(BadHands, -1, lambda: deeds + system)

    def test_not_equal(self):
        for deeds in (Deeds(), Deeds(["ask", "open"])):
            self.different(deeds, door())
            self.different(deeds, System([door()]))


if __name__ == "__main__":
    unittest.main()
