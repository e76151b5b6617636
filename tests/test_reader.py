import random
import unittest

import retext
from helpers import at, failure
from bentalike import errors
from bentalike.figures import segments_of
from bentalike.reader import read_figure, read_pick, read_scene

DOT = ("spot", at(0, 0))
A, B, C, D = [("name", name) for name in "ABCD"]
NINES = "9" * 400
READERS = {"figure": read_figure, "scene": read_scene, "pick": read_pick}


def answer(what, text):
    """The pair of None and what is read, or of the place told with BadText and None."""
    try:
        return None, READERS[what](text)
    except errors.BadText as error:
        return error.spot, None


def path(many, start=0):
    return "path " + " ".join(f"({start + k}, {k % 2})" for k in range(many))


class Texts(unittest.TestCase):

    def check_places(self, what, *pairs):
        """Pairs of a text and the place told with it; one of None if it can be read."""
        for text, place in pairs:
            with self.subTest(text[:80]):
                self.assertEqual(answer(what, text)[0], place)

    def check_told(self, what, *pairs):
        """Pairs of a text and what it tells."""
        for text, value in pairs:
            with self.subTest(text[:80]):
                self.assertEqual(READERS[what](text), value)


class Words(Texts):

    def test_blanks_line_feeds_remarks_between_any_two_words(self):
        words = "let a = spot ( - 1 / 2 , 3 ) ; A = rim [ a + a ] & a - a ;".split()
        told = read_scene(" ".join(words))
        spot = ("spot", ((-1, 2), (3, 1)))
        self.assertEqual(told, (("A", ("less", ("both", ("rim", ("either", spot, spot)), spot), spot)),))
        for gap in ("\n", "  ", " \n\n ", "#\n", "# let B = ]\n", " # % @ ~ \t \u00e9\n\n"):
            self.assertEqual(read_scene(gap.join(words)), told)
            self.assertEqual(read_scene(gap + gap.join(words) + gap), told)

    def test_none_where_words_part_by_themselves(self):
        self.check_told(
            "scene", ("A=spot(1,2);", (("A", ("spot", at(1, 2))),)),
            ("let a1=spot(0,0);A=rim[a1]-a1;B=a1&a1;",
             (("A", ("less", ("rim", DOT), DOT)), ("B", ("both", DOT, DOT)))),
            ("A=spot(00,-0/1);", (("A", DOT),)))
        self.check_told("pick", ("notA", ("not", A)), ("rim[A]", ("rim", A)),
                        ("closureA&innerB", ("both", ("closure", A), ("inner", B))), ("A-B+C&D", (
                            "either", ("less", A, B), ("both", C, D))))

    def test_a_small_word_goes_on_as_long_as_letters_and_digits_do(self):
        self.check_places("pick", ("notall", 0), ("not all", None), ("all1", 0), ("rimA", None), ("rim1", 0),
                          ("allA", 3), ("AA", 1), ("A1", 1), ("1A", 0), ("not1A", 0))
        self.check_places("scene", ("letx=spot(0,0);", 0), ("let x=spot(0,0);A=x;", None), ("let 1x = spot (0, 0);", 4),
                          ("let x1 = spot (0, 0);", None), ("let xA = spot (0, 0);", 5),
                          ("let x=spot(0,0);B=xA;", 19), ("let x = spot (1x, 0);", 15))

    def test_digits_next_to_small_words_part(self):
        self.check_places("scene", ("let a = path (0, 0) (1, 1)let", 26), ("A = spot (0, 0let);", 14),
                          ("A = spot (0, 12);B = spot (0, 0);", None))
        self.assertEqual(answer("figure", "spot (0, 0)2")[0], 11)

    def test_a_remark_parts_words_and_may_go_up_to_the_end(self):
        self.check_places("pick", ("no#\nt A", 0), ("A#", None), ("A # & B", None), ("A #\n& B", None), ("#", 1),
                          ("# A", 3), ("# A\n", 4), ("#\nA", None), ("##\n#A\nA#\n#", None), ("A & # B", 7))
        self.check_places("figure", ("spot (1#2, 3)", 13), ("spot (1#2\n, 3)", None), ("spot (1#\n2, 3)", 9))

    def test_strange_signs_in_remarks_and_elsewhere(self):
        for sign in "!\t\r\x00\x0b\x0c%@_.:?<>{}|~^*'\"\\`$\u00e9\u0661\u00b2\ud800\U0001f600\u00a0\u2028EZF":
            self.check_places("pick", (f"A # {sign}\n+ B{sign}", 9), (f"A{sign}", 1), (sign, 0), (f"no{sign}t", 0),
                              (f"rim {sign} A", 4), (f"A {sign}# B", 2), (f"A # {sign}", None))
            self.check_places("figure", (f"spot (1{sign}2, 3)", 7), (f"spo{sign}t (1, 2)", 3),
                              (f"spot{sign} (1, 2)", 4), (f"{sign}spot (1, 2)", 0))
            self.check_places("scene", (f"A = spot (1, 2){sign};", 15), (f"A{sign} = spot (1, 2);", 1),
                              (f"let a{sign}b = spot (1, 2);", 5), (f"A = spot (1, 2);{sign}", 16))

    def test_other_digits_and_letters_stand_in_no_word(self):
        self.check_places("figure", ("spot (\u0661, 0)", 6), ("spot (1\u00b2, 0)", 7), ("\u00e0", 0), ("a\u00e0", 1),
                          ("spot (1, 0\uff11)", 10))

    def test_free_names_of_12_signs_and_small_words_of_13(self):
        for name in ("a", "abcdefghijkl", "a12345678901", "lets", "spots", "all1", "not0", "closures", "rimm", "end",
                     "name", "free", "digits", "strange"):
            self.check_places("scene", (f"let {name} = spot (0, 0); A = {name};", None))
        for name in ("abcdefghijklm", "a123456789012", "closureclosure", "x" * 400):
            self.check_places("scene", (f"let {name} = spot (0, 0);", 4), (f"A = {name};", 4),
                              (f"{name} = spot (0, 0);", 0), (f"let a = spot (0, 0) {name}", 20))
            self.check_places("figure", (name, 0), (f"rim {name}", 4), (f"spot (0, 0) # {name}", None))

    def test_key_words_are_no_free_names(self):
        for word in "let spot path area rim inner closure not all".split():
            self.check_places("scene", (f"let {word} = spot (0, 0);", 4))
        for word in ("let", "not", "all"):
            self.check_places("scene", (f"A = {word};", 4))
        self.check_places("figure", ("rim rim", 7), ("let", 0), ("all", 0), ("not spot (0, 0)", 0), ("rim all", 4))

    def test_rows_of_400_digits_and_of_401(self):
        great = int(NINES)
        self.check_told("figure", (f"spot ({NINES}, -{NINES})", ("spot", ((great, 1), (-great, 1)))),
                        (f"spot (1/{NINES}, {NINES}/{NINES})", ("spot", ((1, great), (1, 1)))),
                        (f"spot ({'0' * 400}, {'0' * 399}1)", ("spot", at(0, 1))))
        self.check_places("figure", (f"spot ({NINES}9, 0)", 6), (f"spot (0, -{NINES}9)", 10),
                          (f"spot (0, 1/{NINES}9)", 11), (f"spot (0, 0) {NINES}9", 12), (NINES + "9", 0),
                          (f"spot (0, 1/{'0' * 401})", 11), (f"spot (0, 1/{'0' * 400})", 11),
                          (f"spot (0, {'0' * 401})", 9), (f"spot (0, 0) # {NINES}9", None))


class Figures(Texts):

    def test_numbers_in_any_terms(self):
        for text, value in (("0", (0, 1)), ("-0", (0, 1)), ("00", (0, 1)), ("0/5", (0, 1)), ("-0/7", (0, 1)),
                            ("4/2", (2, 1)), ("-4/6", (-2, 3)), ("007/0014", (1, 2)), ("- 1 / 2", (-1, 2)),
                            ("6/4", (3, 2)), ("1/1", (1, 1)), ("-12", (-12, 1))):
            self.check_told("figure", (f"spot ({text}, 1)", ("spot", (value, (1, 1)))),
                            (f"spot (1, {text})", ("spot", ((1, 1), value))))

    def test_what_is_no_number(self):
        self.check_places("figure", ("spot (--1, 0)", 7), ("spot (+1, 0)", 6), ("spot (1/-2, 0)", 8),
                          ("spot (1/2/3, 0)", 9), ("spot (, 0)", 6), ("spot (1 2, 0)", 8), ("spot (-, 0)", 7),
                          ("spot (1/, 0)", 8), ("spot (/2, 0)", 6), ("spot (a, 0)", 6), ("spot (1-2, 0)", 7),
                          ("spot (A, 0)", 6))

    def test_each_kind(self):
        self.check_told(
            "figure", ("spot (1, 2)", ("spot", at(1, 2))), ("path (0, 0) (1, 2)", ("path", (at(0, 0), at(1, 2)))),
            ("area (0, 0) (1, 0) (0, 1)", ("area", (at(0, 0), at(1, 0), at(0, 1)))),
            ("rim spot (0, 0)", ("rim", DOT)), ("inner spot (0, 0)", ("inner", DOT)),
            ("closure spot (0, 0)", ("closure", DOT)), ("[spot (0, 0)]", DOT),
            ("rim inner closure spot (0, 0)", ("rim", ("inner", ("closure", DOT)))))

    def test_signs_in_every_order(self):
        for text, value in (
                ("A + B", ("either", A, B)), ("A - B", ("less", A, B)), ("A & B", ("both", A, B)),
                ("A + B + C", ("either", ("either", A, B), C)), ("A - B - C", ("less", ("less", A, B), C)),
                ("A & B & C", ("both", ("both", A, B), C)), ("A + B - C", ("less", ("either", A, B), C)),
                ("A - B + C", ("either", ("less", A, B), C)), ("A + B & C", ("either", A, ("both", B, C))),
                ("A & B + C", ("either", ("both", A, B), C)), ("A - B & C", ("less", A, ("both", B, C))),
                ("A & B - C", ("less", ("both", A, B), C)), ("A - [B - C]", ("less", A, ("less", B, C))),
                ("[A + B] & C", ("both", ("either", A, B), C)), ("A & [B & C]", ("both", A, ("both", B, C))),
                ("rim A & B", ("both", ("rim", A), B)), ("rim [A & B]", ("rim", ("both", A, B))),
                ("A & rim B + C", ("either", ("both", A, ("rim", B)), C)),
                ("A & B - C & D + A", ("either", ("less", ("both", A, B), ("both", C, D)), A)),
                ("[[A] - [[B]]]", ("less", A, B)), ("not not A & all", ("both", ("not", ("not", A)), ("all",)))):
            self.check_told("pick", (text, value))
        one, two, three = [f"spot ({k}, 0)" for k in range(3)]
        told = [("spot", at(k, 0)) for k in range(3)]
        self.check_told("figure", (f"{one} - {two} & {three}", ("less", told[0], ("both", told[1], told[2]))),
                        (f"rim {one} + {two}", ("either", ("rim", told[0]), told[1])),
                        (f"rim [{one} + {two}]", ("rim", ("either", told[0], told[1]))))

    def test_words_that_cannot_go_on(self):
        self.check_places(
            "figure", ("", 0), (" \n ", 3), ("A", 0), ("spot", 4), ("spot (0, 0) (1, 1)", 12), ("spot 0, 0", 5),
            ("path (0, 0)", 11), ("path (0, 0) + spot (0, 0)", 12), ("area (0, 0) (1, 0)", 18),
            ("area (0, 0) (1, 0) ]", 19), ("spot (0, 0) spot", 12), ("spot (0, 0);", 11), ("[spot (0, 0)", 12),
            ("spot (0, 0)]", 11), ("[]", 1), ("+", 0), ("spot (0, 0) +", 13), ("spot (0, 0) + + ", 14), ("rim", 3),
            ("rim + a", 4), ("spot (0 0)", 8), ("spot (0, 0 0)", 11), ("spot (0, 0, 0)", 10), ("spot (0)", 7),
            ("path (0, 0) (1, 1) (", 20), ("path (0, 0) (1, 1) a", 19), ("[a] b", 4), ("a = b", 2), ("a rim b", 2))
        self.check_places("pick", ("", 0), ("a", 0), ("spot (0, 0)", 0), ("A B", 2), ("A all", 2), ("A not B", 2),
                          ("(A)", 0), ("[A", 2), ("A]", 1), ("A &", 3), ("& A", 0), ("not", 3), ("A = B", 2),
                          ("A;", 1), ("let", 0), ("all all", 4))

    def test_paths_of_1_2_3_12_13_points(self):
        self.check_places("figure", (path(1), len(path(1))), (path(2), None), (path(3), None), (path(12), None),
                          (path(13), 0), ("rim  " + path(13), 5), (path(14), 0), ("spot (0, 0) + " + path(40), 14))
        self.assertEqual(len(read_figure(path(12))[1]), 12)

    def test_areas_of_2_3_12_13_points(self):
        area = ["area" + path(many)[4:] for many in (2, 3, 12, 13)]
        self.check_places("figure", (area[0], len(area[0])), (area[1], None), (area[2], None), (area[3], 0),
                          (f"inner [ {area[3]} ]", 8))

    def test_two_alike_behind_one_another(self):
        self.check_places(
            "figure", ("path (0, 0) (0, 0)", 0), ("path (1/2, 0) (2/4, 00)", 0), ("path (0, 0) (1, 0) (-0, 0)", None),
            ("path (0, 0) (1, 0) (1, 0)", 0), ("area (0, 0) (1, 0) (1, 0)", 0), ("area (0, 0) (1, 0) (0, 1)", None),
            ("area (0, 0) (1, 0) (0, 0)", 0), ("area (0, 0) (1, 0) (0, 1) (-0/3, 0)", 0),
            ("area (0, 0) (1, 0) (0, 0) (0, 1)", None), ("rim area (0, 0) (1, 0) (0/9, 0)", 4))

    def test_digits_behind_a_slash_that_tell_0(self):
        self.check_places("figure", ("spot (1/0, 0)", 8), ("spot (1, 1/00)", 11), ("spot (0/0, 0)", 8),
                          ("spot (-1/ 000, 0)", 10), ("spot (1/0, 1/0)", 8), ("spot (1/01, 0)", None))

    def test_a_1_goes_on_in_its_place(self):
        self.check_places("figure", ("path (1/0, 0) (1, 0)", 0), ("path (1/0, 0) (2, 0)", 8),
                          ("area (0, 0) (1, 1) (5/0, 0)", 22), ("area (5, 0) (1, 1) (5/0, 0)", 0),
                          ("path (2, 0) (4/0, 0)", 15), ("path (0, 0) (4/0, 0) (2, 0) (2, 0)", 0))

    def test_free_names_are_told_ahead_of_no_figure(self):
        self.check_places("figure", ("a", 0), ("rim a", 4), ("[b + a]", 1), ("spot (0, 0) & x1", 14), ("a + 1", 4))

    def test_6_and_7_deep_by_prefixes(self):
        dot = "spot (0, 0)"
        for many in range(12):
            place = None if many < 6 else 4 * (many - 6)
            self.check_places("figure", ("rim " * many + dot, place))
            self.check_places("pick", ("not " * many + "A", place), ("rim " * many + "[all]", place))
        self.check_places("figure", ("rim " * 5 + "inner " + dot, 0), ("inner " + "rim " * 5 + dot, 0),
                          ("rim " * 4 + "inner " * 2 + dot, 0), ("rim " * 4 + "inner " * 3 + dot, 4))

    def test_6_and_7_deep_by_signs(self):
        for sign in "+-&":
            for many in range(1, 9):
                text = f" {sign} ".join("A" * many)
                self.check_places("pick", (text, None if many < 7 else 22))
        self.check_places("pick", ("A + B & C & D & A & B", None), ("A + B & C & D & A & B & C", 2),
                          ("A - not [A & rim [B + C]]", None), ("A - not [A & rim [B + C - not D]]", 2),
                          ("not [A & rim [B + C - not D]]", None), ("not [A & rim [B + C - not not D]]", 0),
                          ("not [A & rim [B + C - not not not D]]", 7),
                          ("A & [B & [C & [D & [A & [B & C]]]]]", 2), ("not [A + B + C + D + A + B]", 0))

    def test_what_is_too_deep_goes_on_as_one_deep(self):
        self.check_places("figure", ("rim " * 7 + "spot (0, 0)", 4), ("rim " * 11 + "spot (0, 0)", 20),
                          ("rim " * 12 + "spot (0, 0)", 0))
        self.check_places("pick", ("not " * 5 + "[A+A+A+A+A+A+A]", 32), ("not " * 6 + "[A+A+A+A+A+A+A]", 0))

    def test_12_and_13_open_at_one_place(self):
        dot = "spot (0, 0)"
        for many in (11, 12):
            self.check_places("figure", ("[" * many + dot + "]" * many, None))
            self.check_places("pick", ("[" * many + "A" + "]" * many, None))
        self.check_places("figure", ("[" * 13 + dot + "]" * 13, 12), ("[" * 40 + dot, 12),
                          ("rim " * 13 + dot, 48), ("rim [" * 6 + dot + "]" * 6, 0), ("rim [" * 7 + dot, 30),
                          ("[" * 8 + "rim " * 4 + dot + "]" * 8, None), ("[" * 8 + "rim " * 4 + "[" + dot, 24),
                          ("[" * 12 + "rim " + dot, 12), ("[" * 11 + "rim " + dot + "+ rim " + dot + "]" * 11, None),
                          ("[" * 11 + "rim " + dot + "+ [" + dot + "]" * 12, None),
                          ("[" * 12 + dot + "]" * 12 + "+" + "[" * 12 + dot + "]" * 12, None))
        self.check_places("pick", ("not " * 13 + "A", 48), ("[" * 12 + "not A", 12), ("[not " * 7 + "A", 30))

    def test_what_is_closed_is_open_no_more_and_closed_once(self):
        for closed in ("[A]", "[[A]]", "not A", "not not A", "[not A]", "not [A]", "[A] - not A - [A]"):
            start = len(closed) + 3
            self.check_places("pick", (f"{closed} & " + "[" * 12 + "A" + "]" * 12, None),
                              (f"{closed} & " + "[" * 13 + "A" + "]" * 13, start + 12),
                              (f"[{closed} & " + "[" * 12 + "A" + "]" * 13, start + 12),
                              (f"[{closed} & " + "[" * 11 + "A" + "]" * 12, None))

    def test_24_and_25_segments(self):
        fits = f"{path(12)} + {path(12)} + {path(3)}"
        self.assertEqual(len(segments_of(read_figure(fits))), 24)
        self.check_places("figure", (fits + " + path (0, 0) (1, 1)", 0), (fits + " + spot (0, 0)", None),
                          (f" \n[{fits}] - path (0, 0) (1, 1)", 2), ("area" + path(12)[4:] + " + " + path(12), None),
                          ("  area" + path(12)[4:] + " + area" + path(12)[4:], None),
                          ("  area" + path(12)[4:] + " + area" + path(12)[4:] + "+ path (0, 0) (1, 0)", 2),
                          (f"rim {fits} - {path(2)}", 0))

    def test_the_segments_of_what_is_wrong_do_not_count(self):
        dot = "spot (0, 0) + "
        fits = f"{path(12)} + {path(12)} + {path(3)}"
        self.check_places("figure", (f"{dot}{fits} + {path(13)}", len(f"{dot}{fits} + ")),
                          (f"{dot}{path(12)} + {path(12)} + {path(13)}", len(f"{dot}{path(12)} + {path(12)} + ")),
                          (dot + "rim " * 6 + f"{path(12)} + {path(12)} + {path(12)}", len(dot)),
                          (dot + "rim " * 5 + f"{path(12)} + {path(12)} + {path(12)}", 12),
                          (dot + "rim " * 2 + f"{path(12)} + {path(12)} + {path(12)}", 0))


class Scenes(Texts):

    def test_any_number_of_statements_also_none(self):
        self.check_told("scene", ("", ()), (" \n", ()), ("# none", ()), ("#\n#", ()), ("let a = spot (0, 0);", ()),
                        ("D = spot (0, 0); B = spot (1, 0);", (("B", ("spot", at(1, 0))), ("D", DOT))))
        self.assertEqual([name for name, _ in read_scene("".join(f"{name} = spot (0, 0);" for name in "CADB"))],
                         list("ABCD"))

    def test_words_that_cannot_go_on(self):
        self.check_places(
            "scene", ("A", 1), ("A =", 3), ("A = spot (0, 0)", 15), ("A = spot (0, 0);;", 16), (";", 0), ("let", 3),
            ("let A = spot (0, 0);", 4), ("let a spot", 6), ("a = spot (0, 0);", 0), ("spot (0, 0)", 0),
            ("A = B;", 4), ("A = spot (0, 0), B", 15), ("A = not spot (0, 0);", 4), ("A == spot (0, 0);", 3),
            ("A B = spot (0, 0);", 2), ("A = spot (0, 0); E = spot (0, 0);", 17), ("A = spot (0, 0) B", 16),
            ("let a = ;", 8), ("A = spot (0, 0);]", 16), ("A = [spot (0, 0);]", 16), ("AB = spot (0, 0);", 1))

    def test_a_free_name_stands_for_its_figure_from_there_on(self):
        self.check_told("scene", ("let a = spot (0, 0); A = rim a; let b = rim a; B = b & a;",
                                  (("A", ("rim", DOT)), ("B", ("both", ("rim", DOT), DOT)))))
        self.check_places("scene", ("A = a; let a = spot (0, 0);", 4), ("let a = a; A = a;", 8),
                          ("let a = b; let b = spot (0, 0);", 8), ("let a = spot (0, 0) + a;", 22),
                          ("let a = spot (0, 0); A = a; B = c;", 32), ("A = spot (0, 0) - x;", 18))

    def test_a_free_name_told_twice(self):
        self.check_places("scene", ("let a = spot (0, 0); let a = spot (0, 0);", 25),
                          ("let a = spot (0, 0); let  a = b;", 26), ("let a = b; let a = spot (0, 0);", 8),
                          ("let a = spot (0, 0); let b = a; let a = b; let b = a;", 36))

    def test_a_name_told_twice(self):
        self.check_places("scene", ("A = spot (0, 0); A = spot (0, 0);", 17), ("A = spot (0, 0); B = spot (0, 0);",
                                                                               None),
                          ("A = spot (0, 0); B = spot (0, 0); A = x;", 34), ("A = x; A = spot (0, 0);", 4),
                          ("A = spot (0, 0);A=y;A=z;", 16))

    def test_24_and_25_segments_over_several_statements(self):
        one, two = f"A = {path(12)}; ", f"B = {path(12)}; "
        self.check_places("scene", (one + two + "C = path (0, 0) (1, 0) (2, 1);", None),
                          (one + two + "C = path (0, 0) (1, 0) (2, 1) (3, 3);", len(one + two) + 4),
                          (one + two + "D = spot (0, 0); C = path (0, 0) (1, 0) (2, 1) (3, 3);", len(one + two) + 21),
                          (one + two + "D=area (0, 0) (1, 0) (2, 1);C = x;", len(one + two) + 2),
                          (f"A = [{path(12)} + {path(12)} + {path(4)}];", 4))

    def test_what_is_too_much_goes_on_as_a_spot(self):
        great = f"A = rim [{path(12)} + {path(12)} + {path(4)}]; "
        self.check_places("scene", (great + f"B = {path(12)}; C = {path(12)}; D = {path(4)};", 4))
        many = f"x + {path(12)} + {path(12)} + {path(13)}"
        self.check_places("scene", (f"let x = spot (0, 0); A = {many};", 25 + many.rindex("path")))

    def test_figures_under_free_names_count_where_they_are_used(self):
        great = f"let a = {path(12)} + {path(12)} + {path(12)}; "
        self.check_places("scene", (great, None), (great + "A = spot (0, 0);", None), (great + "A = a;",
                                                                                       len(great) + 4),
                          (great + "let b = a + a; A = rim spot (0, 0);", None))
        half = f"let a = {path(12)} + {path(2)}; "
        self.check_places("scene", (half + "A = a; B = a;", None), (half + "A = a + a;", None),
                          (half + "A = a + a - a;", len(half) + 4), (half + "A = a; B = a; C = [a];", len(half) + 18))

    def test_how_deep_a_free_name_is(self):
        deep = "let a = rim rim rim rim rim spot (0, 0); "
        self.check_places("scene", (deep + "A = a;", None), (deep + "A = rim a;", len(deep) + 4),
                          (deep + "A = spot (0, 0) + [a];", len(deep) + 16), (deep + "let b = a & a;", len(deep) + 10))
        deep = "let a = rim rim rim rim rim rim spot (0, 0); "
        self.check_places("scene", (deep + "A = a;", 8), (deep + "A = rim rim rim rim rim rim a;", 8))

    def test_the_first_word_that_cannot_go_on_beside_other_faults(self):
        for text, place in (("A = x; B = spot (1/0, 0); A = path (0, 0) (0, 0); !", 50),
                            ("! A = x;", 0), ("A = x; ) B = y;", 7), ("A = spot (1/0, 0; B = x;", 16),
                            ("A = x", 5), (f"A = {path(13)} (0", len(path(13)) + 7), ("A = spot (0, 1/0);E", 18),
                            ("let a = b; let a = c; let", 25), ("A = " + "rim " * 13 + "x;", 52)):
            self.check_places("scene", (text, place))

    def test_of_several_faults_the_least_place(self):
        self.check_places("scene", ("A = spot (1, 1/0); A = path (0, 0) (0, 0);", 15),
                          ("A = path (0, 0) (0, 0); A = spot (1/0, 1);", 4),
                          ("A = x; A = y;", 4), ("A = spot (0, 0); A = y;", 17),
                          ("A = spot (0, 0) + x - rim rim rim rim rim rim spot (1/0, 0);", 18),
                          ("A = path (0, 0) (1/0, 0) (1, 0);", 4), ("A = [x + spot (1, 1/0)] & path (0, 0) (0, 0);", 5),
                          ("A = rim rim rim rim rim rim path (1, 1/0) (1, 1/0);", 4),
                          (f"A = [spot (1/0, 0) + {path(12)} + {path(12)} + {path(4)}];", 4),
                          (f"A = spot (1/0, 0); B = {path(12)} + {path(12)} + {path(4)};", 12))

    def test_texts_where_another_one_is_wanted(self):
        figure, scene, pick = "spot (0, 0) + path (0, 0) (1, 1)", "A = spot (0, 0);\n", "A & not B"
        self.check_places("figure", (figure, None), (scene, 0), (pick, 0))
        self.check_places("scene", (figure, 0), (scene, None), (pick, 2))
        self.check_places("pick", (figure, 0), (scene, 2), (pick, None))
        for what, place in (("figure", 0), ("pick", 0), ("scene", None)):
            self.check_places(what, ("", place), ("  ", None if place is None else 2),
                              ("# x", None if place is None else 3))

    def test_what_is_no_string(self):
        for value in (None, 1, True, b"A = spot (0, 0);", ["A"], ("A",), (), {}, {"A"}, len):
            for reads in READERS.values():
                error = failure(reads, value)
                self.assertIs(error.__class__, errors.BadText)
                self.assertIsNone(error.spot)


class AsTheDocumentWordsIt(unittest.TestCase):

    def check_same(self, what, text):
        told = retext.read(text, what)
        with self.subTest(what=what, text=text):
            self.assertEqual(answer(what, text), told)
        return told[0]

    def test_texts_that_can_be_read_but_for_what_is_wrong_otherwise(self):
        chance = random.Random(301)
        told = {True: 0, False: 0}
        for _ in range(700):
            what = chance.choice(("figure", "scene", "scene", "pick"))
            text = retext.laid_out(chance, retext.some_words(chance, what))
            told[self.check_same(what, text) is None] += 1
        self.assertGreater(min(told.values()), 100)

    def test_texts_with_other_words(self):
        chance = random.Random(302)
        signs = list("+-&/,()[]=;ABC03abE!\t") + "let spot path area rim not all inner abcdefghijklm".split()
        for _ in range(1500):
            what = chance.choice(list(READERS))
            words = retext.some_words(chance, what) or ["A"]
            place = chance.randrange(len(words))
            change = chance.randrange(5)
            words[place:place + chance.randrange(2)] = {
                0: [], 1: [chance.choice(signs)], 2: [chance.choice(signs)] * 2, 3: ["["] * chance.randrange(14),
                4: ["9" * chance.choice((400, 401))]}[change]
            self.check_same(what, retext.laid_out(chance, words if chance.random() < 0.8 else words[:place]))

    def test_texts_with_other_signs(self):
        chance = random.Random(303)
        for _ in range(500):
            what = chance.choice(list(READERS))
            text = retext.laid_out(chance, retext.some_words(chance, what))
            place = chance.randrange(len(text) + 1)
            text = text[:place] + chance.choice("!E\t\r#a1A \n;") + text[place + chance.randrange(2):]
            self.check_same(what, text)

    def test_texts_of_any_signs(self):
        chance = random.Random(304)
        for _ in range(2000):
            text = "".join(chance.choice("A=;[]&-+(),01 a#\n") for _ in range(chance.randrange(9)))
            for what in READERS:
                self.check_same(what, text)


if __name__ == "__main__":
    unittest.main()
