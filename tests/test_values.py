"""Tests of [1], [2] and [4], and of [8] to [13]: values."""

import itertools
import unittest

from sheetworks.numbers import SCALE
from sheetworks.values import (
    EMPTY, ERRORS, array, as_number, as_text, as_truth, as_whole, compared, height, member,
    number_of, order_key, shown, text_of, width)

TOP = 10 ** 21 - 1
YES = ("truth", True)
NO = ("truth", False)
WORDS = ("DIV", "VALUE", "REF", "NAME", "NUM", "NA", "CALC", "SIZE", "LIMIT", "CIRC")


def number(m):
    return ("number", m)


def text(s):
    return ("text", s)


def error(word):
    return ("error", word)


class Constants(unittest.TestCase):
    def test_errors(self):
        self.assertEqual(ERRORS, WORDS)
        self.assertIs(ERRORS.__class__, tuple)

    def test_empty(self):
        self.assertEqual(EMPTY, ("empty",))


class Arrays(unittest.TestCase):
    def check_size(self, h, w):
        members = [number(k) for k in range(h * w)]
        self.assertEqual(array(h, w, members), ("array", h, w, tuple(members)))

    def check_too_great(self, h, w):
        members = [number(k) for k in range(h * w)]
        self.assertEqual(array(h, w, members), error("SIZE"))

    def test_one_member(self):
        for v in (EMPTY, number(1), YES, text("a"), error("NA")):
            self.assertEqual(array(1, 1, [v]), v)
            self.assertEqual(array(1, 1, (v,)), v)

    def test_ordinary(self):
        self.assertEqual(array(1, 2, [EMPTY, YES]), ("array", 1, 2, (EMPTY, YES)))
        self.assertEqual(array(2, 1, [EMPTY, YES]), ("array", 2, 1, (EMPTY, YES)))
        self.assertEqual(array(h=1, w=2, members=(NO, YES)), ("array", 1, 2, (NO, YES)))

    def test_twenty_rows_and_columns(self):
        for h, w in [(20, 1), (1, 20), (20, 3), (3, 20), (2, 20), (20, 2)]:
            self.check_size(h, w)

    def test_more_than_twenty(self):
        for h, w in [(21, 1), (1, 21), (21, 2), (2, 21), (21, 3), (32, 2), (2, 32), (64, 1)]:
            self.check_too_great(h, w)

    def test_sixty_four_members(self):
        for h, w in [(8, 8), (16, 4), (4, 16), (9, 7), (7, 9)]:
            self.check_size(h, w)

    def test_more_members(self):
        for h, w in [(13, 5), (5, 13), (11, 6), (20, 4), (4, 20), (20, 20), (21, 21), (10, 7)]:
            self.check_too_great(h, w)

    def test_a_list_that_changes_afterwards(self):
        members = [number(1), text("b"), NO, EMPTY]
        v = array(2, 2, members)
        self.assertIs(v[3].__class__, tuple)
        members[0] = YES
        members.append(YES)
        self.assertEqual(v, ("array", 2, 2, (number(1), text("b"), NO, EMPTY)))

    def test_members_are_not_changed(self):
        members = [number(1), text("b")]
        array(2, 1, members)
        array(1, 2, members)
        self.assertEqual(members, [number(1), text("b")])

    def test_height_and_width(self):
        for v in (EMPTY, number(1), YES, text("abc"), error("NA"), error("CIRC")):
            self.assertEqual((height(v), width(v)), (1, 1))
        v = array(3, 2, [EMPTY] * 6)
        self.assertEqual((height(v), width(v)), (3, 2))
        self.assertEqual((height(v=v), width(v=v)), (3, 2))

    def test_member(self):
        v = array(3, 2, [number(k) for k in range(6)])
        found = [member(v, i, j) for i in range(3) for j in range(2)]
        self.assertEqual(found, [number(k) for k in range(6)])
        self.assertEqual(member(v=v, j=1, i=2), number(5))

    def test_member_of_a_scalar(self):
        for v in (EMPTY, number(1), YES, text("abc"), error("NA")):
            self.assertEqual(member(v, 0, 0), v)


class Made(unittest.TestCase):
    def test_text_of(self):
        self.assertEqual(text_of(""), text(""))
        self.assertEqual(text_of(s="a b"), text("a b"))
        self.assertEqual(text_of("x" * 64), text("x" * 64))
        self.assertEqual(text_of("x" * 65), error("VALUE"))
        self.assertEqual(text_of("x" * 1000), error("VALUE"))

    def test_number_of(self):
        for m in (0, 1, -1, TOP, -TOP):
            self.assertEqual(number_of(m), number(m))
        for word in WORDS:
            self.assertEqual(number_of(word), error(word))
        self.assertEqual(number_of(m="NUM"), error("NUM"))


class Conversions(unittest.TestCase):
    def check(self, deed, told):
        for v, wanted in told:
            found = deed(v)
            self.assertEqual(found, wanted, v)
            # True == 1, so the kinds of the members are looked at, too.
            self.assertEqual([x.__class__ for x in found], [x.__class__ for x in wanted], v)

    def test_errors_stay(self):
        for deed in (as_number, as_text, as_truth, as_whole):
            self.check(deed, [(error(word), error(word)) for word in WORDS])

    def test_by_name(self):
        self.assertEqual(as_number(v=YES), number(SCALE))
        self.assertEqual(as_text(v=YES), text("TRUE"))
        self.assertEqual(as_truth(v=EMPTY), NO)
        self.assertEqual(as_whole(v=number(1)), number(0))
        self.assertEqual(shown(v=EMPTY), "")

    def test_as_number(self):
        self.check(as_number, [
            (number(7), number(7)), (number(-TOP), number(-TOP)), (EMPTY, number(0)),
            (YES, number(SCALE)), (NO, number(0)),
            (text("1.5"), number(1500000)), (text("  -2 "), number(-2000000)),
            (text("0.0000025"), number(2)), (text("007"), number(7000000)),
            (text(""), error("VALUE")), (text(" "), error("VALUE")), (text("abc"), error("VALUE")),
            (text("TRUE"), error("VALUE")), (text("1 2"), error("VALUE")),
            (text("#NA!"), error("VALUE")), (text("1234567890123456"), error("VALUE"))])

    def test_as_text(self):
        self.check(as_text, [
            (EMPTY, text("")), (number(0), text("0")), (number(-1500000), text("-1.5")),
            (number(TOP), text("999999999999999.999999")), (YES, text("TRUE")),
            (NO, text("FALSE")), (text(" aB "), text(" aB ")), (text(""), text("")),
            (text("x" * 64), text("x" * 64))])

    def test_as_truth(self):
        self.check(as_truth, [
            (YES, YES), (NO, NO), (EMPTY, NO), (number(0), NO), (number(1), YES),
            (number(-1), YES), (number(SCALE), YES),
            (text("TRUE"), YES), (text("true"), YES), (text("tRuE"), YES),
            (text("FALSE"), NO), (text("false"), NO), (text("fAlSe"), NO),
            (text(""), error("VALUE")), (text(" TRUE"), error("VALUE")),
            (text("FALSE "), error("VALUE")), (text("1"), error("VALUE")),
            (text("0"), error("VALUE")), (text("TRUEFALSE"), error("VALUE")),
            (text("T"), error("VALUE"))])

    def test_as_whole(self):
        self.check(as_whole, [
            (number(1999999), number(1000000)), (number(-1), number(-1000000)),
            (number(3000000), number(3000000)), (EMPTY, number(0)), (YES, number(SCALE)),
            (NO, number(0)), (text("2.7"), number(2000000)), (text("-2.7"), number(-3000000)),
            (text("x"), error("VALUE")), (number(TOP), number(10 ** 21 - 10 ** 6)),
            (number(-TOP), error("NUM")), (text("-999999999999999.5"), error("NUM"))])

    def test_shown(self):
        told = [(EMPTY, ""), (number(0), "0"), (number(-2500000), "-2.5"), (YES, "TRUE"),
                (NO, "FALSE"), (text(""), ""), (text(" a'B\"c "), " a'B\"c "),
                (text("x" * 64), "x" * 64)]
        for v, wanted in told:
            self.assertEqual(shown(v), wanted)
        for word in WORDS:
            self.assertEqual(shown(error(word)), "#" + word + "!")


class Comparing(unittest.TestCase):
    def check_rising(self, row):
        """The scalars of row rise strictly."""
        for (i, a), (j, b) in itertools.product(enumerate(row), enumerate(row)):
            wanted = (i > j) - (i < j)
            self.assertEqual(compared(a, b), wanted, (a, b))
            self.assertIs(compared(a, b).__class__, int)

    def check_alike(self, a, b):
        self.assertEqual((compared(a, b), compared(b, a)), (0, 0), (a, b))

    def check_less(self, a, b):
        self.assertEqual((compared(a, b), compared(b, a)), (-1, 1), (a, b))

    def test_kinds(self):
        self.check_rising([number(-TOP), number(-1), number(0), number(1), number(TOP),
                           text(""), text("0"), text("a"), NO, YES])

    def test_each_two_kinds(self):
        self.check_less(number(TOP), text(""))
        self.check_less(number(TOP), text("-5"))
        self.check_less(number(SCALE), NO)
        self.check_less(number(TOP), YES)
        self.check_less(text("~"), NO)
        self.check_less(text("TRUE"), NO)
        self.check_less(text("zzz"), YES)

    def test_empty_beside_each_kind(self):
        self.check_alike(EMPTY, EMPTY)
        self.check_alike(EMPTY, number(0))
        self.check_less(EMPTY, number(1))
        self.check_less(number(-1), EMPTY)
        self.check_alike(EMPTY, text(""))
        self.check_less(EMPTY, text(" "))
        self.check_less(EMPTY, text("a"))
        self.check_alike(EMPTY, NO)
        self.check_less(EMPTY, YES)

    def test_texts(self):
        # By ASCII numbers: blank, ', -, 0, 9, <, A, Z, [, _ and ~, no small letters between.
        self.check_rising([text(s) for s in
                           ("", " ", "'", "-", "0", "10", "9", "<", "a", "A ", "AA", "ab", "B",
                            "z", "Z0", "[", "_", "~")])

    def test_capital_and_small_letters(self):
        self.check_alike(text("abc"), text("ABC"))
        self.check_alike(text("aBc1"), text("AbC1"))
        self.check_less(text("a"), text("B"))
        self.check_less(text("A"), text("b"))
        # Small letters lie behind _ by their own numbers, capital ones ahead.
        self.check_less(text("a"), text("_"))
        self.check_less(text("z"), text("["))

    def test_a_beginning(self):
        self.check_less(text("ab"), text("abc"))
        self.check_less(text("AB"), text("abc"))
        self.check_less(text(""), text("a"))
        self.check_less(text("ab"), text("AB "))

    def test_by_name(self):
        self.assertEqual(compared(b=number(1), a=number(2)), 1)


class Order(unittest.TestCase):
    # All kinds in the order that the keys must have.
    RISING = ([number(m) for m in (-TOP, -SCALE, -1, 0, 1, SCALE, TOP)]
              + [text(s) for s in
                 ("", " ", "0", "10", "9", "A", "a", "AB", "Ab", "aB", "ab", "ABC", "abc", "B",
                  "b", "FALSE", "TRUE", "_", "~")]
              + [NO, YES] + [error(word) for word in WORDS] + [EMPTY])

    def test_order(self):
        for (i, a), (j, b) in itertools.product(enumerate(self.RISING), enumerate(self.RISING)):
            self.assertEqual(order_key(a) < order_key(b), i < j, (a, b))
            self.assertEqual(order_key(a) == order_key(b), i == j, (a, b))

    def test_sorted(self):
        self.assertEqual(sorted(reversed(self.RISING), key=order_key), self.RISING)

    def test_keys_are_tuples_of_integers_and_strings(self):
        for v in self.RISING:
            key = order_key(v=v)
            self.assertIs(key.__class__, tuple)
            for part in key:
                self.assertIn(part.__class__, (int, str))

    def test_equal_scalars_have_equal_keys(self):
        for v in self.RISING:
            self.assertEqual(order_key(v), order_key(tuple(list(v))))


class Same(unittest.TestCase):
    def test_equal_calls_return_equal_results(self):
        for v in Order.RISING:
            for deed in (as_number, as_text, as_truth, as_whole, shown, order_key):
                self.assertEqual(deed(v), deed(v))

    def test_results_fit_again(self):
        """What is made of a scalar is a scalar of [8]: its text has at most 64 signs."""
        for v in Order.RISING + [text("x" * 64)]:
            for deed in (as_number, as_text, as_truth, as_whole):
                found = deed(v)
                self.assertIs(found.__class__, tuple)
                self.assertIn(found[0], ("number", "truth", "text", "error"))
                self.assertTrue(found[0] != "text" or len(found[1]) <= 64)


if __name__ == "__main__":
    unittest.main()
