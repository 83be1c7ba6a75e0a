"""Promises [36] and [37]."""

import unittest

from polyring.asked import member, same
from polyring.bases import base
from polyring.desk import answers
from polyring.factors import factors
from polyring.greatest import common
from polyring.notes import read, shown
from polyring.partsin import parts_in
from polyring.rows import row_of, sum_of
from polyring.squares import parts
from polyring.sums import minus, plus, slope, times

GREAT_LETTERS = "ABCDEFGHIJKLMNOPQRSTUVWXYZ"
NO_NAMES = ("a", "z", "AA", "A1", "1", "0", "_", "-", "AB", "A,", "(A)", "x", "*", "A\t", "[", "@", "`", "{")
NO_NUMBERS = ("", "-1", "+1", "00", "01", "007", "1000000000", "0000000000", "12345678901", "1.0", "1e3", "x", "A", "0x1",
              "1_0", "two", "7\t", "7,")


def last_of(*rows):
    return answers("\n".join(rows))[-1]


class DeskCase(unittest.TestCase):
    def talk(self, *pairs):
        """Each pair is a row and its answer, from the first on; each row is answered the same at each length."""
        rows = [row for row, answer in pairs]
        wanted = [answer for row, answer in pairs]
        told = answers("\n".join(rows))
        self.assertIsInstance(told, list)
        self.assertTrue(all(isinstance(one, str) for one in told))
        self.assertEqual(list(zip(rows, told)), list(zip(rows, wanted)))
        self.assertEqual(len(told), len(wanted))

    def each_wrong(self, ahead, rows, wanted="no row"):
        for row in rows:
            with self.subTest(ahead=ahead, row=row):
                self.assertEqual(last_of(*ahead, row), wanted)


class RowsAndWords(DeskCase):
    def test_36_no_rows_no_answers(self):
        for text in ("", " ", "   ", "\n", "\n\n\n", " \n  \n", "  \n\n "):
            self.assertEqual(answers(text), [])

    def test_36_one_answer_for_each_row_that_has_words(self):
        self.assertEqual(answers("\n\nring 0 1\n\n  \nlet A x\n\nshow A\n\n"), ["ok", "ok", "x"])
        self.assertEqual(answers("ring 0 1\nlet A x\nshow A"), ["ok", "ok", "x"])
        self.assertEqual(answers("show A\nring 0 1\n"), ["no row", "ok"])

    def test_36_blanks_at_the_ends_and_between(self):
        self.assertEqual(answers("  ring   0    2 \n   let A   3*x^2   -  y    +  5   \n  show     A  "),
                         ["ok", "ok", "3*x^2 - y + 5"])

    def test_36_no_other_sign_parts_words(self):
        self.talk(("ring 0 1", "ok"), ("let A x", "ok"), ("show\tA", "no row"), ("show A\t", "no row"),
                  ("\tshow A", "no row"), ("\t", "no row"), ("show A\r", "no row"), ("ring 0\t2", "no row"),
                  ("ring\t0 2", "no row"), ("let B x\t+ 1", "refused: not written"),
                  ("let B x +\t1", "refused: not written"), ("let B x + 1\t", "refused: not written"),
                  ("show B", "no sum B"), ("let B \t", "refused: not written"), ("show A", "x"))

    def test_36_other_words(self):
        self.each_wrong(["ring 0 2", "let A x"], (
            "hello", "Show A", "SHOW A", "shows A", "sho A", "A", "A A", "let", "x", "0", "no row", "ok", "print A",
            "divide A A", "rings 0 2", "raised A 2", "scaled A 2", "value A 1", "read A", "lead lex A", "content A",
            "shown A", "with A A", "? A", "same", "none", "desk", "without A 1", "reduced lex A A", "quotient A A"))


class Ring(DeskCase):
    def test_36_37_good_and_refused(self):
        self.talk(("ring 0 1", "ok"), ("ring 0 4", "ok"), ("ring 2 1", "ok"), ("ring 997 4", "ok"), ("ring 97 2", "ok"),
                  ("ring 1 2", "refused: no ring"), ("ring 4 2", "refused: no ring"), ("ring 999 2", "refused: no ring"),
                  ("ring 1009 2", "refused: no ring"), ("ring 999999999 1", "refused: no ring"),
                  ("ring 7 0", "refused: no unknowns"), ("ring 7 5", "refused: no unknowns"),
                  ("ring 0 0", "refused: no unknowns"), ("ring 0 999999999", "refused: no unknowns"),
                  ("ring 4 5", "refused: no ring"), ("ring 1 0", "refused: no ring"))

    def test_36_37_words_that_are_no_numbers(self):
        for ahead in ([], ["ring 7 2"]):
            self.each_wrong(ahead, [f"ring {word} 2" for word in NO_NUMBERS])
            self.each_wrong(ahead, [f"ring 7 {word}" for word in NO_NUMBERS])
            self.each_wrong(ahead, ["ring", "ring 7", "ring 7 2 1", "ring 7 2 x", "ring  7", "Ring 7 2", "ring 4 05",
                                    "ring 04 5", "ring A B", "ring 7 2 2 2"])

    def test_37_all_but_ring_ahead_of_a_ring(self):
        rows = ("let A x", "show A", "plus A A", "minus A A", "times A A", "slope A x", "common A A", "parts A",
                "factors A", "base lex A", "member lex A A", "same A with A", "let A +", "hello")
        self.each_wrong([], rows)
        self.each_wrong(["ring 4 2"], rows)
        self.each_wrong(["ring 7 5"], rows)
        self.each_wrong(["ring 7"], rows)

    def test_36_a_second_ring_forgets_all_names(self):
        self.talk(("ring 7 2", "ok"), ("let A x", "ok"), ("let Z y", "ok"), ("show Z", "y"), ("ring 7 2", "ok"),
                  ("show A", "no sum A"), ("show Z", "no sum Z"), ("let A y", "ok"), ("ring 0 2", "ok"),
                  ("show A", "no sum A"))

    def test_37_what_is_refused_changes_nothing(self):
        self.talk(("ring 7 2", "ok"), ("let A x + 6*y", "ok"), ("ring 8 2", "refused: no ring"), ("show A", "x + 6*y"),
                  ("ring 11 7", "refused: no unknowns"), ("ring 11 02", "no row"), ("ring 11", "no row"),
                  ("show A", "x + 6*y"), ("plus A A", "2*x + 5*y"), ("let B 10*x", "refused: not written"),
                  ("let B z", "refused: not written"), ("slope A z", "no row"))


class Let(DeskCase):
    def test_36_the_words_with_one_blank_between(self):
        self.talk(("ring 0 2", "ok"), ("let A 0", "ok"), ("show A", "0"), ("let A 3*x^2 - y + 5", "ok"),
                  ("show A", "3*x^2 - y + 5"), ("let  A   x   +   1", "ok"), ("show A", "x + 1"), ("let A -x", "ok"),
                  ("show A", "-x"))

    def test_36_each_great_letter_is_a_name(self):
        rows = [("ring 0 1", "ok")]
        for place, letter in enumerate(GREAT_LETTERS):
            rows += [(f"show {letter}", f"no sum {letter}"), (f"let {letter} {place + 2}*x", "ok")]
        rows += [(f"show {letter}", f"{place + 2}*x") for place, letter in enumerate(GREAT_LETTERS)]
        self.talk(*rows)

    def test_36_37_words_that_are_no_names(self):
        for ring in ("ring 0 2", "ring 7 1"):
            self.each_wrong([ring], [f"let {word} x" for word in NO_NAMES])
            self.each_wrong([ring], ["let", "let A", "let x", "let x A"])

    def test_37_texts_that_write_no_sum(self):
        for text in ("+", "x +", "+ x", "x + x", "1 + x", "x+1", "01", "x^1", "x^100", "z", "A", "A + A", "x y", "1*x",
                     "--x", "- x", "x ^ 2", "2 * x", "let", "0 0", "x + 0", "y + x"):
            self.talk(("ring 0 2", "ok"), ("let A y", "ok"), (f"let A {text}", "refused: not written"), ("show A", "y"),
                      (f"let B {text}", "refused: not written"), ("show B", "no sum B"))

    def test_37_numbers_that_are_none_of_the_ring(self):
        self.talk(("ring 5 1", "ok"), ("let A 4*x + 1", "ok"), ("let A 5*x", "refused: not written"),
                  ("let A -x", "refused: not written"), ("let A x - 1", "refused: not written"),
                  ("show A", "4*x + 1"), ("ring 7 1", "ok"), ("let A 5*x", "ok"), ("show A", "5*x"))


class Reckoning(DeskCase):
    def test_36_over_the_whole_numbers(self):
        self.talk(("ring 0 2", "ok"), ("let A 3*x^2 - y + 5", "ok"), ("let B x + y", "ok"), ("let N 0", "ok"),
                  ("show A", "3*x^2 - y + 5"), ("plus A B", "3*x^2 + x + 5"), ("minus A B", "3*x^2 - x - 2*y + 5"),
                  ("minus B A", "-3*x^2 + x + 2*y - 5"), ("times A B", "3*x^3 + 3*x^2*y - x*y + 5*x - y^2 + 5*y"),
                  ("minus A A", "0"), ("plus N N", "0"), ("times A N", "0"), ("plus A A", "6*x^2 - 2*y + 10"),
                  ("slope A x", "6*x"), ("slope A y", "-1"), ("slope N y", "0"), ("slope B y", "1"))

    def test_36_over_a_prime(self):
        self.talk(("ring 5 3", "ok"), ("let A x^5 + 4*y*z + 2", "ok"), ("let B z^2 + 3", "ok"),
                  ("plus A B", "x^5 + 4*y*z + z^2"), ("minus B A", "4*x^5 + y*z + z^2 + 1"),
                  ("times B B", "z^4 + z^2 + 4"), ("slope A x", "0"), ("slope A y", "4*z"), ("slope A z", "4*y"))

    def test_36_against_the_functions(self):
        texts = ("x^3*y - 2*x*y^2 + 4*y - 1", "-5*x^2 + 7*x*y", "0", "12", "x - y")
        for ring in (0, 13):
            rows = [read(0, 2, text) for text in texts]
            rows = [[(exponents, number % ring if ring else number) for exponents, number in row] for row in rows]
            ahead = [f"ring {ring} 2"] + [f"let {name} {shown(row)}" for name, row in zip("ABCDE", rows)]
            for first, one in zip("ABCDE", rows):
                for place, letter in enumerate("xy"):
                    self.assertEqual(last_of(*ahead, f"slope {first} {letter}"), shown(slope(ring, one, place)))
                for second, other in zip("ABCDE", rows):
                    for word, action in (("plus", plus), ("minus", minus), ("times", times)):
                        wanted = shown(action(ring, one, other))
                        self.assertEqual(last_of(*ahead, f"{word} {first} {second}"), wanted)

    def test_37_wrong_counts_and_names(self):
        ahead = ["ring 7 2", "let A x", "let B y"]
        for word in ("plus", "minus", "times"):
            self.each_wrong(ahead, [word, f"{word} A", f"{word} A B A", f"{word} A B x"])
            self.each_wrong(ahead, [f"{word} {name} A" for name in NO_NAMES] + [f"{word} A {name}" for name in NO_NAMES])
        self.each_wrong(ahead, ["show", "show A B", "show A A"] + [f"show {name}" for name in NO_NAMES])
        self.each_wrong(ahead, ["slope", "slope A", "slope x", "slope A x y", "slope x A", "slope A A", "slope A 0",
                                "slope A X", "slope A xy", "slope A a", "slope A x^2"])
        self.each_wrong(ahead, [f"slope {name} x" for name in NO_NAMES])

    def test_37_letters_of_unknowns_that_there_are_not(self):
        for many in (1, 2, 3, 4):
            for place, letter in enumerate("xyzw"):
                wanted = "0" if place < many else "no row"
                self.assertEqual(last_of(f"ring 0 {many}", "let A 5", f"slope A {letter}"), wanted)
                wanted = "no sum B" if place < many else "no row"
                self.assertEqual(last_of(f"ring 0 {many}", "let A 5", f"slope B {letter}"), wanted)

    def test_37_the_first_name_from_the_left_that_stands_for_nothing(self):
        ahead = ["ring 0 2", "let A x"]
        for word in ("plus", "minus", "times", "common"):
            for row, name in ((f"{word} A B", "B"), (f"{word} B A", "B"), (f"{word} C B", "C"), (f"{word} B C", "B")):
                self.assertEqual(last_of(*ahead, row), f"no sum {name}")
        self.assertEqual(last_of(*ahead, "show Q"), "no sum Q")
        self.assertEqual(last_of(*ahead, "parts Q"), "no sum Q")
        self.assertEqual(last_of(*ahead, "show Q A"), "no row")
        self.assertEqual(last_of(*ahead, "plus Q a"), "no row")


class CommonAndParts(DeskCase):
    def test_36_common(self):
        self.talk(("ring 0 2", "ok"), ("let A 6*x^2*y - 6*y", "ok"), ("let B -4*x*y - 4*y", "ok"), ("let N 0", "ok"),
                  ("common A B", "2*x*y + 2*y ; 3*x - 3 ; -2"), ("common B A", "2*x*y + 2*y ; -2 ; 3*x - 3"),
                  ("common A N", "6*x^2*y - 6*y ; 1 ; 0"), ("common N B", "4*x*y + 4*y ; 0 ; -1"),
                  ("common N N", "refused: no meet"), ("common A A", "6*x^2*y - 6*y ; 1 ; 1"))

    def test_36_common_against_the_function(self):
        one, other = read(0, 3, "x^2*z + 2*x*z - y^2*z - 2*y*z"), read(0, 3, "3*x*z^2 - 3*y*z^2")
        wanted = " ; ".join(shown(row) for row in common(one, other)[:3])
        ahead = ["ring 0 3", f"let P {shown(one)}", f"let Q {shown(other)}"]
        self.assertEqual(last_of(*ahead, "common P Q"), wanted)

    def test_37_common_over_a_prime_is_no_row(self):
        for ring in ("2", "7", "997"):
            for many in ("1", "2"):
                self.each_wrong([f"ring {ring} {many}", "let A x"], ["common A A", "common A B", "common A"])
        self.each_wrong(["ring 0 2", "let A x"], ["common", "common A", "common A A A", "common A a", "common B"])

    def test_36_parts_over_the_whole_numbers(self):
        self.talk(("ring 0 2", "ok"), ("let A -4*x^2*y - 8*x*y - 4*y", "ok"), ("parts A", "-4 ; y ^ 1 ; x + 1 ^ 2"),
                  ("let A 7", "ok"), ("parts A", "7"), ("let A -7", "ok"), ("parts A", "-7"), ("let A 0", "ok"),
                  ("parts A", "refused: no parts"), ("let A x^99", "ok"), ("parts A", "1 ; x ^ 99"))
        row = read(0, 2, "x^4*y^2 - 2*x^2*y^2 + y^2")
        number, rows = parts_in(row)
        wanted = " ; ".join([str(number)] + [f"{shown(part)} ^ {many}" for part, many in rows])
        self.assertEqual(last_of("ring 0 2", f"let A {shown(row)}", "parts A"), wanted)

    def test_36_parts_and_factors_over_a_prime(self):
        self.talk(("ring 5 1", "ok"), ("let A 2*x^5 + 2", "ok"), ("parts A", "2 ; x + 1 ^ 5"),
                  ("factors A", "2 ; x + 1 ^ 5"), ("let A x^4 + 4", "ok"), ("parts A", "1 ; x^4 + 4 ^ 1"),
                  ("factors A", "1 ; x + 1 ^ 1 ; x + 2 ^ 1 ; x + 3 ^ 1 ; x + 4 ^ 1"), ("let A 3", "ok"), ("parts A", "3"),
                  ("factors A", "3"), ("let A 0", "ok"), ("parts A", "refused: no parts"),
                  ("factors A", "refused: no parts"), ("parts B", "no sum B"), ("factors B", "no sum B"))
        row = read(7, 1, "3*x^6 + x^4 + 2*x + 5")
        for word, action in (("parts", parts), ("factors", factors)):
            number, rows = action(7, row_of(row))
            wanted = " ; ".join([str(number)] + [f"{shown(sum_of(part))} ^ {many}" for part, many in rows])
            self.assertEqual(last_of("ring 7 1", f"let A {shown(row)}", f"{word} A"), wanted)

    def test_37_where_they_are_not_told_for(self):
        for ring in ("2", "7", "31"):
            for many in ("2", "3", "4"):
                self.each_wrong([f"ring {ring} {many}", "let A x"], ["parts A", "parts B", "factors A", "factors B"])
        for many in ("1", "2", "3", "4"):
            self.each_wrong([f"ring 0 {many}", "let A x"], ["factors A", "factors B", "parts", "parts A A", "parts a"])
            self.assertEqual(last_of(f"ring 0 {many}", "let A x", "parts A"), "1 ; x ^ 1")
        self.each_wrong(["ring 7 1", "let A x"], ["factors", "factors A A", "factors x", "parts", "parts A A"])


class Bases(DeskCase):
    AHEAD = ("ring 7 2", "let A x^2 + y", "let B x*y + 6", "let C x^3 + 1", "let D x", "let N 0", "let O 5")

    def test_36_base(self):
        rows = (("base lex A B", "y^3 + 1 ; x + y^2"), ("base deg A B", "x + y^2 ; x*y + 6 ; x^2 + y"),
                ("base lex B A", "y^3 + 1 ; x + y^2"), ("base lex N", "none"), ("base deg N N N N", "none"),
                ("base deg N A", "x^2 + y"), ("base lex O", "1"), ("base deg A O N", "1"),
                ("base lex A A A A", "x^2 + y"))
        for row, wanted in rows:
            self.assertEqual(last_of(*self.AHEAD, row), wanted, row)

    def test_36_member(self):
        rows = (("member lex C A B", "yes"), ("member deg C A B", "yes"), ("member lex D A B", "no: 6*y^2"),
                ("member deg D A B", "no: x"), ("member lex A A", "yes"), ("member lex N A", "yes"),
                ("member deg N N", "yes"), ("member deg D N N", "no: x"), ("member lex D O", "yes"),
                ("member deg D A B C N", "no: x"), ("member lex D N A N B", "no: 6*y^2"))
        for row, wanted in rows:
            self.assertEqual(last_of(*self.AHEAD, row), wanted, row)

    def test_36_same(self):
        rows = (("same A B with B A", "yes"), ("same A B with A", "no"), ("same A with A B", "no"),
                ("same A B C with B A", "yes"), ("same N with N", "yes"), ("same N N N N with N", "yes"),
                ("same N with A", "no"), ("same O with O N A B", "yes"), ("same A with N A N A", "yes"))
        for row, wanted in rows:
            self.assertEqual(last_of(*self.AHEAD, row), wanted, row)

    def test_36_against_the_functions(self):
        texts = {"P": "x^2*y + 3*z", "Q": "x*z + y^2 + 1", "R": "2*x*y + z^2", "S": "x^2*y*z + 3*z^2"}
        sums = {name: read(31, 3, text) for name, text in texts.items()}
        ahead = ["ring 31 3"] + [f"let {name} {text}" for name, text in texts.items()]
        for order in ("lex", "deg"):
            for names in ("P", "QP", "RQ", "PQRS"):
                given = [sums[name] for name in names]
                wanted = " ; ".join(shown(row) for row in base(31, order, given)[0])
                self.assertEqual(last_of(*ahead, f"base {order} {' '.join(names)}"), wanted)
                for asked in "PQRS":
                    yes, factors_, rest = member(31, order, given, sums[asked])
                    told = last_of(*ahead, f"member {order} {asked} {' '.join(names)}")
                    self.assertEqual(told, "yes" if yes else "no: " + shown(rest))
                for others in ("P", "PS", "RQP"):
                    wanted = "yes" if same(31, given, [sums[name] for name in others]) else "no"
                    self.assertEqual(last_of(*ahead, f"same {' '.join(names)} with {' '.join(others)}"), wanted)

    def test_37_wrong_words(self):
        self.each_wrong(self.AHEAD, ["base", "base lex", "base A", "base A B", "base lex A B C D A", "base Lex A",
                                     "base grlex A", "base lex a", "base lex A lex", "base deg lex A", "base lex A a B"])
        self.each_wrong(self.AHEAD, ["member", "member lex", "member lex A", "member A B", "member A lex B",
                                     "member lex A B C D N O", "member LEX A B", "member lex a B", "member lex A b",
                                     "member lex A with B"])
        self.each_wrong(self.AHEAD, ["same", "same A", "same A B", "same with", "same A with", "same with A",
                                     "same A B C D N with A", "same A with A B C D N", "same A with B with C",
                                     "same A With B", "same a with A", "same A with b", "same A = B", "same A with with",
                                     "same with A with B", "same lex A with B"])

    def test_37_over_the_whole_numbers_they_are_no_rows(self):
        for many in ("1", "2", "3"):
            self.each_wrong([f"ring 0 {many}", "let A x"], ["base lex A", "base deg A", "base lex B", "member lex A A",
                                                            "member deg B A", "same A with A", "same A with B"])

    def test_37_names_that_stand_for_nothing(self):
        for row, name in (("base lex X", "X"), ("base deg A X B Y", "X"), ("member lex X A", "X"),
                          ("member lex A Y X", "Y"), ("member deg A B C Z", "Z"), ("same X with Y", "X"),
                          ("same A with Y", "Y"), ("same A Y with X", "Y"), ("same A B with A E X", "E")):
            self.assertEqual(last_of(*self.AHEAD, row), f"no sum {name}", row)
        self.each_wrong(self.AHEAD, ["base lexx X", "base lex X y", "member lex X", "same X with y", "same X Y"])


class NothingChanges(DeskCase):
    def test_37_rows_that_are_not_answered_well_change_nothing(self):
        wrong = ("ring 6 2", "ring 7 9", "ring x y", "let A q", "let A", "let B +", "show Q", "plus A Q", "hello", "parts N",
                 "common N N", "slope A w", "factors A", "base lex A", "let a x", "ring 7", "let AB x", "let N 00")
        ahead = ["ring 0 2", "let A x^2 - y", "let N 0"]
        wanted = answers("\n".join(ahead + ["show A", "show N", "show B", "slope A y", "times A A"]))
        told = answers("\n".join(ahead + list(wrong) + ["show A", "show N", "show B", "slope A y", "times A A"]))
        self.assertEqual(told[len(ahead) + len(wrong):], wanted[len(ahead):])
        self.assertEqual(len(told), len(wanted) + len(wrong))

    def test_36_the_desk_starts_anew_each_time(self):
        answers("ring 7 2\nlet A x")
        self.assertEqual(answers("show A\nring 7 2\nshow A"), ["no row", "ok", "no sum A"])

    def test_4_the_list_is_the_asker_s_own(self):
        first = answers("ring 7 2\nlet A x")
        second = answers("ring 7 2\nlet A x")
        self.assertIsNot(first, second)
        second.append("more")
        self.assertEqual(first, ["ok", "ok"])
        self.assertEqual(answers("ring 7 2\nlet A x"), ["ok", "ok"])
        self.assertIsNot(answers(""), answers(""))

    def test_36_a_name_stands_for_another_one_ahead(self):
        self.talk(("ring 0 1", "ok"), ("let A x", "ok"), ("let B x + 1", "ok"), ("let A x^2", "ok"), ("show A", "x^2"),
                  ("show B", "x + 1"), ("plus A B", "x^2 + x + 1"), ("show A", "x^2"))


if __name__ == "__main__":
    unittest.main()
