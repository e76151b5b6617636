import random
import unittest

import repick
from helpers import at, failure
from test_plans import scenes
from test_reader import path
from bentalike import errors
from bentalike.asked import euler, holes, meetings, pieces, word_of
from bentalike.books import changed, done_again, fresh_book, undone
from bentalike.console import run
from bentalike.deeds import does_fit, work_of
from bentalike.errors import BadText, NothingToRedo, NothingToUndo
from bentalike.pictures import letters
from bentalike.printer import figure_text, pick_text, scene_text
from bentalike.reader import read_pick, read_scene
from bentalike.renamings import alike
from bentalike.scenes import label_at

START = ("let hall = area (0, 0) (4, 0) (4, 4) (0, 4)", "A = hall", "B = rim hall + spot (2, 2)")
HOME = "A = area (0, 0) (4, 0) (4, 4) (0, 4);\nB = rim area (0, 0) (4, 0) (4, 4) (0, 4) + spot (2, 2);"


def said(*lines):
    """The answers to the lines said to a desk of the scene HOME."""
    told = run(START + lines)
    return told[len(START):]


class ConsoleCase(unittest.TestCase):

    def check_said(self, *pairs):
        """Pairs of a line and its answer, each said to a desk of the scene HOME, which stays unless it is "done"."""
        for line, answer in pairs:
            with self.subTest(line):
                told = said(line, "show")
                self.assertEqual(told[0], answer)
                if answer == "?" or answer.startswith(("Bad", "Unknown", "does", "nothing")):
                    self.assertEqual(told[1], HOME)

    def check_row(self, *pairs):
        """Pairs of a line and its answer, one behind the other."""
        lines, answers = zip(*pairs)
        self.assertEqual(run(lines), answers)


class Statements(ConsoleCase):

    def test_the_examples_by_hand(self):
        self.check_row((START[0], "done"), (START[1], "done"), ("keep one", "done"), (START[2], "done"),
                       ("meet A B", "around 0 1 1 0 1 0 0 0 1"), ("pieces B", "2"), ("holes not B", "2"),
                       ("alike one", "unlike"), ("undo", "done"), ("alike one", "both"), ("label 2 2/1", "A"))

    def test_a_name_and_an_equals_sign(self):
        for line in ("C = spot (1, 1)", "C=spot(1,1)", "  C  =  spot (1, 1)  ", "C\n=\nspot (1, 1)\n",
                     "# A\nC # =\n= spot (1, 1) # ;", "C = [[spot (2/2, 01)]]"):
            self.assertEqual(said(line, "show"), ("done", HOME + "\nC = spot (1, 1);"))

    def test_let_and_what_goes_on_behind_it(self):
        self.check_said(("let", "BadText 3"), ("let x", "BadText 5"), ("let x = spot (0, 0)", "done"), ("let!",
                                                                                                        "BadText 3"),
                        ("let=", "BadText 3"), ("letA", "BadText 3"), ("let A = spot (0, 0)", "BadText 4"),
                        (" let x = ", "BadText 9"), ("let 1", "BadText 4"), ("lets", "?"), ("let1", "?"),
                        ("let\tx", "BadText 3"), ("let # x", "BadText 7"), ("# x\nlet", "BadText 7"),
                        ("let abcdefghijklm = spot (0, 0)", "BadText 4"), ("let not = spot (0, 0)", "BadText 4"))

    def test_names_without_an_equals_sign_are_no_statements(self):
        self.check_said(("A", "?"), ("A B = spot (0, 0)", "?"), ("A ! = spot (0, 0)", "?"), ("AB = spot (0, 0)", "?"),
                        ("E = spot (0, 0)", "?"), ("A# = spot (0, 0)", "?"), ("a = spot (0, 0)", "?"),
                        ("A spot", "?"), ("A1 = spot (0, 0)", "?"), ("= A", "?"))

    def test_the_place_in_a_whole_line(self):
        self.check_said(("A = spot (0, 0", "BadText 14"), ("A = ", "BadText 4"), ("A=", "BadText 2"),
                        ("  A =  x", "BadText 7"), ("A == spot (0, 0)", "BadText 3"), ("A = spot (0, 0) !",
                                                                                       "BadText 16"),
                        ("A = spot (0, 1/0)", "BadText 15"), ("A = path (0, 0) (0, 0)", "BadText 4"),
                        ("#\nA = not B", "BadText 6"), ("A = rim rim rim rim rim rim spot (0, 0)", "BadText 4"),
                        ("A = spot (0, 0) spot", "BadText 16"), ("C = A", "BadText 4"))

    def test_with_a_semicolon_and_without(self):
        self.check_said(("C = spot (0, 0);", "BadText 15"), ("C = spot (0, 0) ; ", "BadText 16"),
                        ("let x = spot (0, 0);", "BadText 19"), ("C = spot (0, 0); D = spot (0, 0)", "BadText 15"),
                        ("C = spot (0, 0) # ;", "done"), (";", "?"), ("C;", "?"))

    def test_let_told_twice(self):
        self.check_row(("let x = spot (0, 0)", "done"), ("let x = spot (1, 1)", "BadText 4"), ("A = x", "done"),
                       ("show", "A = spot (0, 0);"), ("  let  x = y", "BadText 7"), ("let y = y", "BadText 8"),
                       ("let y = x", "done"), ("let y = x", "BadText 4"), ("let z = x + spot (1/0, 0)", "BadText 20"),
                       ("let z = rim x", "done"), ("B = z & y", "done"), ("let x = x; let x = x", "BadText 9"),
                       ("show", "A = spot (0, 0);\nB = rim spot (0, 0) & spot (0, 0);"))

    def test_what_was_told_wrong_is_not_told(self):
        self.check_row(("let x = spot (0, 0", "BadText 18"), ("let x = spot (0, 1/0)", "BadText 19"),
                       ("A = x", "BadText 4"), ("let x = x", "BadText 8"), ("let x = spot (0, 0)", "done"), ("A = x",
                                                                                                             "done"))

    def test_a_name_put_again(self):
        self.check_row(("A = spot (0, 0)", "done"), ("A = spot (1, 1)", "done"), ("show", "A = spot (1, 1);"),
                       ("undo", "done"), ("show", "A = spot (0, 0);"), ("undo", "done"), ("show", "nothing"),
                       ("undo", "nothing there"))

    def test_what_is_told_by_let_stays_when_changes_are_undone(self):
        self.check_row(("A = spot (0, 0)", "done"), ("let x = spot (2, 2)", "done"), ("keep x", "done"),
                       ("undo", "done"), ("A = x", "done"), ("show", "A = spot (2, 2);"), ("alike x", "both"),
                       ("redo", "nothing there"))

    def test_24_and_25_segments_with_the_other_names(self):
        self.check_row(
            ("A = " + path(12), "done"), ("B = " + path(12), "done"), (" C = " + path(4), "BadText 5"),
            ("C = " + path(3), "done"), ("C = " + path(3) + " + spot (0, 0)", "done"),
            ("B = " + path(12) + " + " + path(2), "BadText 4"), ("D = path (0, 0) (1, 0)", "BadText 4"),
            ("B = spot (0, 0)", "done"), ("B = " + path(12), "done"), ("strike C", "work anew"),
            ("B = " + path(12) + " + " + path(3), "done"), ("let x = " + path(12) + " + " + path(12), "done"),
            ("let y = x + x", "done"), ("B = y", "BadText 4"), ("B = x", "BadText 4"), ("strike A", "work anew"),
            ("B = x", "done"), ("B = y", "BadText 4"))

    def test_how_deep_told_names_are(self):
        self.check_row(("let x = rim rim rim rim spot (0, 0)", "done"), ("A = rim x", "done"),
                       ("A = rim rim x", "BadText 4"), ("B = spot (0, 0) - rim x", "BadText 16"))

    def test_key_words_and_long_names(self):
        for word in ("let", "spot", "rim", "not", "all", "abcdefghijklm", "A", "1", "x!", "x1!", "", "x-y", "X"):
            for line in ("keep " + word, "alike " + word):
                self.check_said((line, "?"))
        for word in ("lets", "x", "a1b2", "abcdefghijkl", "show", "undo", "keep", "pieces"):
            self.check_row(("keep " + word, "done"), ("alike " + word, "both"), (f"let {word} = spot (0, 0)", "done"))


class Changes(ConsoleCase):

    def test_works(self):
        self.check_said(
            ("strike A", "work anew"), ("strike C", "does not fit"), ("exchange A B", "work names"),
            ("exchange A C", "work names"), ("exchange C D", "does not fit"), ("exchange A A", "does not fit"),
            ("exchange C C", "does not fit"), ("shift A 1 0", "work anew"), ("shift A 0 0/7", "work none"),
            ("shift C 1 1", "does not fit"), ("lead 1 0 0 1 0 0", "work none"), ("lead 2 0 0 1 5 5", "work none"),
            ("lead 0 1 1 0 0 0", "work turned"), ("lead 0 1 1 0 1 0", "work turned"), ("lead 1 1 1 1 0 0",
                                                                                       "does not fit"),
            ("lead 0 0 0 0 1 1", "does not fit"), ("lead 1/2 2/3 3/4 1 0 0", "does not fit"),
            ("lead -1 0 0 1 0 0", "work turned"), ("lead 6/4 0/3 -0 02 -1/2 1/1", "work none"))

    def test_what_comes(self):
        self.check_row(("A = spot (1, 2)", "done"), ("shift A 1/2 -03/1", "work anew"), ("show", "A = spot (3/2, -1);"),
                       ("lead 0 2 1 0 0 1", "work turned"), ("show", "A = spot (-2, 5/2);"),
                       ("exchange D A", "work names"), ("show", "D = spot (-2, 5/2);"), ("strike D", "work anew"),
                       ("show", "nothing"), ("lead 0 1 1 0 0 0", "work none"), ("strike D", "does not fit"))

    def test_undo_and_redo_at_the_ends_and_behind_a_new_change(self):
        self.check_row(("undo", "nothing there"), ("redo", "nothing there"), ("A = spot (0, 0)", "done"),
                       ("redo", "nothing there"), ("undo", "done"), ("undo", "nothing there"), ("show", "nothing"),
                       ("redo", "done"), ("redo", "nothing there"), ("show", "A = spot (0, 0);"), ("undo", "done"),
                       ("B = spot (0, 0)", "done"), ("redo", "nothing there"), ("undo", "done"), ("redo", "done"),
                       ("show", "B = spot (0, 0);"))

    def test_20_changes_can_be_undone(self):
        lines = [f"A = spot ({k}, 0)" for k in range(25)] + ["undo"] * 21 + ["show"] + ["redo"] * 21 + ["show"]
        told = run(tuple(lines))
        self.assertEqual(told[25:47], ("done",) * 20 + ("nothing there", "A = spot (4, 0);"))
        self.assertEqual(told[47:], ("done",) * 20 + ("nothing there", "A = spot (24, 0);"))

    def test_deeds_that_leave_the_scene_are_changes(self):
        self.check_row(("lead 1 0 0 1 0 0", "work none"), ("undo", "done"), ("undo", "nothing there"),
                       ("redo", "done"), ("strike A", "does not fit"), ("undo", "done"), ("redo", "done"))

    def test_nothing_changes_by_what_is_not_understood(self):
        lines = ("A = spot (0, 0)", "C = spot (1, 1)", "undo", "keep x")
        wrong = ("?", "A = spot (0, 0", "B = x", "let y = z", "strike E", "strike B", "exchange B C",
                 "lead 1 1 1 1 0 0",
                 "undo 1", "redo x", "keep X", "alike y", "pieces", "pieces (", "show it", "shift A 1/0 1",
                 "shift B 1 1",
                 "letters 0 0 0 0 1", "label x y", "", "  ", "C", "let", "point A 0 0 0", "put A")
        told = run(lines + wrong + ("redo", "show", "alike x", "let y = spot (0, 0)", "undo", "undo", "undo"))
        self.assertEqual(told[-7:], ("done", "A = spot (0, 0);\nC = spot (1, 1);", "unlike", "done", "done", "done",
                                     "nothing there"))

    def test_words_left_out_and_too_many(self):
        for word, told in (("strike", "A"), ("exchange", "A B"), ("shift", "A 1 1"), ("lead", "1 0 0 1 0 0"),
                           ("undo", ""), ("redo", ""), ("show", ""), ("code", ""), ("label", "1 1"),
                           ("letters", "0 0 1 1 1"), ("keep", "x"), ("alike", "x"), ("meet", "A B")):
            words = told.split()
            if words:
                self.check_said((" ".join([word] + words[:-1]), "?"), (word, "?"))
            for more in ("A", "1", "x", "?", "#", "# x"):
                self.check_said((" ".join([word] + words + [more]), "?"))
            self.check_said((word.upper(), "?"), (word + ".", "?"), ("!" + word, "?"), (f"{word}\t{told}x", "?"))

    def test_blanks_ahead_behind_between(self):
        self.check_said(("  strike   A  ", "work anew"), (" show ", HOME), ("   undo   ", "done"),
                        ("  meet  A   B ", "around 0 1 1 0 1 0 0 0 1"), ("   pieces   B   ", "2"), (" label  2   2 ",
                                                                                                    "AB"),
                        ("", ""), (" ", ""), ("      ", ""), ("strike\nA", "?"), ("show\n", "?"), ("\nshow", "?"),
                        ("strike A\n", "?"), ("\n", "?"), ("strike\tA", "?"), ("show#", "?"), ("# show", "?"))


class Answers(ConsoleCase):

    def test_numbers_in_any_terms(self):
        for word in ("2", "02", "4/2", "0004/0002", "6/3"):
            self.check_said((f"label {word} {word}", "AB"))
        for word in ("-0", "0/9", "-0/1", "000", "0" * 400):
            self.check_said((f"label {word} {word}", "AB"), (f"label 1 {word}", "AB"))
        for word in ("1/0", "0/0", "2/00", "/2", "2/", "-", "--2", "+2", "2-", "2/-2", "1/2/3", "2.0", "2,", "(2", "a",
                     "A", "\u0662", "2\n", "-/2", "1#", "0" * 401, "1/" + "1" * 401, "- 2", "1 /2", "\u00b2"):
            self.check_said((f"label {word} 2", "?"), (f"label 2 {word}", "?"), (f"shift A {word} 1", "?"),
                            (f"lead 1 0 0 1 0 {word}", "?"), (f"lead {word} 0 0 1 0 0", "?"),
                            (f"letters {word} 0 100 100 1", "?"), (f"letters 0 0 100 {word} 1", "?"))

    def test_names(self):
        for word in ("E", "a", "AB", "A1", "A,", "1", "\u0391", "A\n", "A#"):
            self.check_said((f"strike {word}", "?"), (f"exchange A {word}", "?"), (f"exchange {word} A", "?"),
                            (f"shift {word} 1 1", "?"), (f"meet {word} A", "?"), (f"meet A {word}", "?"))

    def test_show(self):
        self.check_row(("show", "nothing"), ("C = spot (2/4, 1)", "done"), ("show", "C = spot (1/2, 1);"))
        self.check_said(("show", HOME))

    def test_code(self):
        self.check_row(("code", "[-]"), ("C = spot (1, 1)", "done"), ("code", "[-.C]"),
                       ("A = area (0, 0) (3, 0) (0, 3) - spot (1, 1)", "done"), ("code", "[-oA[A.C]]"),
                       ("undo", "done"), ("code", "[-.C]"))

    def test_label(self):
        self.check_said(("label 1 1", "A"), ("label 0 1/2", "AB"), ("label 9 9", "none"), ("label -1 0", "none"))

    def test_letters(self):
        self.check_said(("letters -1 -1 5 5 6", "......\n.1111.\n.1111.\n.1111.\n.1111.\n......"),
                        ("letters 0 0 2 2 1", "1"), ("letters 0 0 2 2 01", "1"), ("letters 0 0 4 4 0024", "\n".join(
                            ["1" * 24] * 24)), ("letters 0 0 2 2 0", "?"), ("letters 0 0 2 2 25", "?"),
                        ("letters 0 0 0 2 3", "?"), ("letters 0 0 2 0 3", "?"), ("letters 0 0 2 -1 3", "?"),
                        ("letters 2 2 0 0 3", "?"), ("letters 0 0 2 2 -3", "?"), ("letters 0 0 2 2 3/1", "?"),
                        ("letters 0 0 2 2 x", "?"), (f"letters 0 0 2 2 {'0' * 399}2", "11\n11"),
                        (f"letters 0 0 2 2 {'0' * 400}2", "?"), (f"letters 0 0 2 2 {'9' * 400}", "?"),
                        ("letters 1/2 1/2 3/2 3/2 1", "1"), ("letters 0 0 1/0 1 1", "?"))

    def test_keep_in_the_place_of_what_is_there(self):
        self.check_row(("keep x", "done"), ("A = spot (0, 0)", "done"), ("alike x", "unlike"), ("keep x", "done"),
                       ("alike x", "both"), ("undo", "done"), ("alike x", "unlike"), ("keep y", "done"),
                       ("alike y", "both"), ("alike z", "UnknownName"), ("let z = spot (0, 0)", "done"),
                       ("alike z", "UnknownName"))

    def test_alike_with_each_of_its_answers(self):
        self.check_row(
            ("A = path (0, 0) (2, 0) + path (0, 0) (0, 2)", "done"), ("B = path (0, 0) (2, 0)", "done"),
            ("C = path (0, 0) (-2, -1)", "done"), ("keep x", "done"), ("alike x", "alike"),
            ("lead 0 1 1 0 0 0", "work turned"), ("alike x", "turned"), ("lead -1 0 0 1 3 7/2", "work turned"),
            ("alike x", "alike"), ("strike B", "work anew"), ("alike x", "unlike"), ("keep y", "done"),
            ("alike y", "both"))

    def test_meet_tells_a_word_and_nine_truths(self):
        self.check_said(("meet A B", "around 0 1 1 0 1 0 0 0 1"), ("meet B A", "within 0 0 0 1 1 0 1 0 1"),
                        ("meet A A", "same 1 0 0 0 1 0 0 0 1"), ("meet C D", "same 0 0 0 0 0 0 0 0 1"),
                        ("meet A C", "around 0 0 1 0 0 1 0 0 1"))

    def test_pieces_holes_euler(self):
        self.check_said(("pieces A", "1"), ("holes A", "0"), ("euler A", "1"), ("pieces B", "2"), ("holes B", "1"),
                        ("euler B", "1"), ("pieces not [A - B]", "2"), ("euler A - B", "0"),
                        ("holes not B", "2"), ("pieces C", "0"), ("euler all", "1"), ("pieces all # all", "1"),
                        ("pieces\n A", "?"), ("pieces #\n A", "1"), ("pieces  inner[A]&not B", "1"),
                        ("holes closure not A", "1"))

    def test_picks_not_told_not_understood_too_deep(self):
        for word in ("pieces", "holes", "euler"):
            start = len(word)
            self.check_said((word, "?"), (word + "   ", "?"), ("  " + word, "?"), (f"{word}A", "?"), (f"{word}[A]",
                                                                                                      "?"))
            for pick, place in (("a", 1), ("A B", 3), ("A &", 4), ("E", 1), (" [A", 4), ("A;", 2), ("(A)", 1), ("#", 2),
                                ("# A", 4), ("A = B", 3), ("let", 1), ("A!", 2), ("not " * 6 + "A", 1),
                                ("A - rim rim rim rim rim rim B", 5), ("not " * 13 + "A", 49), ("spot (0, 0)", 1)):
                self.check_said((f"{word} {pick}", f"BadText {start + place}"),
                                (f"  {word} {pick}", f"BadText {start + place + 2}"))

    def test_lines_that_are_nothing(self):
        self.check_said(*[(line, "?") for line in (
            "?", "help", "put A spot (0, 0)", "point A 0 0 0", "pick A", "A -", "spot (0, 0)", "picture", "word A B",
            "Show", "undone", "done", "#", "# A = spot (0, 0)", "\u00e9", "1", "all", "A,B", "show;", "done again")])


class Lines(ConsoleCase):

    def test_none_at_all(self):
        self.assertEqual(run(()), ())
        self.assertEqual(run(lines=("", " ")), ("", ""))

    def test_200_and_201_lines(self):
        self.assertEqual(run(("",) * 200), ("",) * 200)
        self.assertEqual(run(("show",) * 200), ("nothing",) * 200)
        for lines in (("",) * 201, (None,) * 201, [""], "show", None, {}, b"show", True, 3):
            error = failure(run, lines)
            self.assertEqual((error.__class__, error.index), (errors.InvalidLines, None))

    def test_the_first_that_is_no_string(self):
        for wrong in (None, 1, True, b"show", ("show",), ["show"], {}):
            for lines, index in (((wrong,), 0), (("show", wrong), 1), (("A = ", wrong, wrong), 1),
                                 (("",) * 199 + (wrong,), 199)):
                error = failure(run, lines)
                self.assertEqual((error.__class__, error.index), (errors.InvalidLines, index))

    def test_each_desk_is_fresh(self):
        self.assertEqual(run(("A = spot (0, 0)", "keep x", "let y = spot (0, 0)")), ("done",) * 3)
        self.assertEqual(run(("show", "alike x", "A = y")), ("nothing", "UnknownName", "BadText 4"))


class Model:
    """A desk told by the other modules' functions, for lines as they have to be."""

    def __init__(self):
        self.book, self.kept = fresh_book(()), {}

    def put(self, name, figure):
        self.book = changed(self.book, ("put", name, (), figure))
        return f"{name} = {figure_text(figure)}", "done"

    def deed(self, deed, line):
        scene = self.book[0][0]
        if not does_fit(scene, deed):
            return line, "does not fit"
        self.book = changed(self.book, deed)
        return line, f"work {work_of(scene, deed)}"

    def turn(self, word, turns, error):
        try:
            self.book = turns(self.book)
        except error:
            return word, "nothing there"
        return word, "done"

    def some(self, chance, figures):
        """A random line and its answer."""
        scene = self.book[0][0]
        name, other = chance.choice("ABCD"), chance.choice("ABCD")
        x, y = chance.randrange(-2, 5), chance.randrange(-2, 5)
        pick = repick.some_pick(chance, chance.randrange(1, 4), "ABCD")
        a, b, c, d = [chance.randrange(-1, 3) for _ in range(4)]
        numbers = tuple((value, 1) for value in (a, b, c, d, x, y))
        key = chance.choice("xyz")
        signs = {(True, True): "both", (True, False): "alike", (False, True): "turned", (False, False): "unlike"}
        ways = (
            lambda: self.put(name, chance.choice(figures)), lambda: self.deed(("strike", name), f"strike {name}"),
            lambda: self.deed(("exchange", name, other), f"exchange {name} {other}"),
            lambda: self.deed(("shift", name, (), (x, 1), (y, 1)), f"shift {name} {x} {y}"),
            lambda: self.deed(("lead", numbers), f"lead {a} {b} {c} {d} {x} {y}"),
            lambda: self.turn("undo", undone, NothingToUndo), lambda: self.turn("redo", done_again, NothingToRedo),
            lambda: ("show", scene_text(scene)[:-1] or "nothing"), lambda: ("code", self.book[0][1]),
            lambda: (f"label {x} {y}", "".join(label_at(scene, at(x, y))) or "none"),
            lambda: (f"letters {x} {y} {x + 2} {y + 3} 2", "\n".join(letters(scene, at(x, y), at(x + 2, y + 3), 2))),
            lambda: (f"keep {key}", "done" if self.kept.update({key: scene}) is None else ""),
            lambda: (f"alike {key}", signs[alike(scene, self.kept[key])] if key in self.kept else "UnknownName"),
            lambda: (f"meet {name} {other}", " ".join(
                [word_of(scene, name, other)] + [str(int(told)) for told in meetings(scene, name, other)])),
            lambda: (f"pieces {pick_text(pick)}", str(pieces(scene, pick))),
            lambda: (f"holes {pick_text(pick)}", str(holes(scene, pick))),
            lambda: (f"euler {pick_text(pick)}", str(euler(scene, pick))))
        return chance.choice(ways)()


class Random(unittest.TestCase):

    def test_lines_of_all_kinds(self):
        chance = random.Random(351)
        figures = [figure for scene in scenes(352, 60, 2) for _, figure in scene if len(figure_text(figure)) < 90]
        for _ in range(15):
            model = Model()
            pairs = [model.some(chance, figures[:12]) for _ in range(80)]
            lines, answers = zip(*pairs)
            self.assertEqual(run(lines), answers)

    def test_the_scene_of_statements(self):
        for scene in scenes(353, 30):
            lines = tuple(line[:-1] for line in scene_text(scene).splitlines())
            self.assertEqual(run(lines + ("show",))[-1], scene_text(scene)[:-1] or "nothing")
            self.assertEqual(read_scene(run(lines + ("show",))[-1] if scene else ""), scene)

    def test_places_of_picks_are_those_of_the_text_moved(self):
        chance = random.Random(354)
        for _ in range(300):
            text = "".join(chance.choice("AB&+-[] notrim#!") for _ in range(chance.randrange(1, 12)))
            if not text.strip(" "):
                continue
            try:
                read_pick(text)
            except BadText as error:
                self.assertEqual(run((f" pieces  {text}",)), (f"BadText {error.spot + 9}",))
            else:
                self.assertTrue(run((f" pieces  {text}",))[0].isdigit())


if __name__ == "__main__":
    unittest.main()
