import random
import unittest

from helpers import at, failure
from test_deeds import DOT, FAR, HALL, HOME, NIL, NONE_AT_ALL, ONE, SAME, some_deed
from test_plans import scenes
from bentalike import errors
from bentalike.books import changed, done_again, fresh_book, is_book, undone
from bentalike.codes import code, turned_code
from bentalike.deeds import behind_deed, does_fit, work_of
from bentalike.needless import least_map


def state(scene):
    return scene, code(least_map(scene))


def spot(k):
    """The scene of a spot."""
    return (("A", ("spot", at(k, 0))),)


def numbered(first, last):
    """States of unlike scenes."""
    return tuple(state(spot(k)) for k in range(first, last))


def put(k):
    return "put", "A", (), ("spot", at(k, 0))


class Books(unittest.TestCase):

    def test_a_fresh_one(self):
        for scene in [(), HOME, spot(3)] + scenes(331, 20):
            book = fresh_book(scene)
            self.assertEqual(book, (state(scene), (), ()))
            self.assertIs(is_book(book), True)

    def test_a_change(self):
        book = fresh_book(HOME)
        behind = behind_deed(HOME, ("strike", "B"))
        self.assertEqual(changed(book, ("strike", "B")), (state(behind), (state(HOME),), ()))
        same = changed(book, ("lead", SAME))
        self.assertEqual(same, (state(HOME), (state(HOME),), ()))

    def test_a_change_when_there_are_later_states(self):
        book = (state(spot(2)), numbered(0, 2), numbered(3, 6))
        self.assertEqual(changed(book, put(9)), (state(spot(9)), numbered(0, 3), ()))
        self.assertEqual(changed(book, put(2)), (state(spot(2)), numbered(0, 3), ()))

    def test_undone_and_done_again(self):
        book = (state(spot(2)), numbered(0, 2), numbered(3, 6))
        self.assertEqual(undone(book), (state(spot(1)), numbered(0, 1), numbered(2, 6)))
        self.assertEqual(undone(undone(book)), (state(spot(0)), (), numbered(1, 6)))
        self.assertEqual(done_again(book), (state(spot(3)), numbered(0, 3), numbered(4, 6)))
        self.assertEqual(done_again(done_again(done_again(book))), (state(spot(5)), numbered(0, 5), ()))

    def test_at_the_ends(self):
        for book in (fresh_book(HOME), (state(spot(2)), (), numbered(3, 6))):
            error = failure(undone, book)
            self.assertIs(error.__class__, errors.NothingToUndo)
            self.assertEqual(vars(error), {})
        for book in (fresh_book(HOME), (state(spot(2)), numbered(0, 2), ())):
            error = failure(done_again, book)
            self.assertIs(error.__class__, errors.NothingToRedo)
            self.assertEqual(vars(error), {})

    def test_20_earlier_states_and_the_21st(self):
        book = fresh_book(spot(0))
        for k in range(1, 26):
            book = changed(book, put(k))
            self.assertEqual(book, (state(spot(k)), numbered(max(0, k - 20), k), ()))
        for k in range(24, 4, -1):
            book = undone(book)
            self.assertEqual(book, (state(spot(k)), numbered(5, k), numbered(k + 1, 26)))
        self.assertIs(failure(undone, book).__class__, errors.NothingToUndo)
        for k in range(6, 26):
            book = done_again(book)
        self.assertEqual(book, (state(spot(25)), numbered(5, 25), ()))
        self.assertIs(failure(done_again, book).__class__, errors.NothingToRedo)

    def test_20_earlier_and_20_later_states(self):
        book = (state(spot(20)), numbered(0, 20), numbered(21, 41))
        self.assertIs(is_book(book), True)
        self.assertEqual(undone(book), (state(spot(19)), numbered(0, 19), numbered(20, 40)))
        self.assertEqual(done_again(book), (state(spot(21)), numbered(1, 21), numbered(22, 41)))
        self.assertEqual(changed(book, put(50)), (state(spot(50)), numbered(1, 21), ()))

    def test_21_of_either_are_too_many(self):
        for book in ((state(spot(21)), numbered(0, 21), ()), (state(spot(0)), (), numbered(1, 22))):
            self.check_none(book)

    def check_none(self, *values):
        for value in values:
            with self.subTest(value):
                self.assertIs(is_book(value), False)
                for function in (lambda book: changed(book, put(0)), undone, done_again):
                    error = failure(function, value)
                    self.assertIs(error.__class__, errors.InvalidBook)
                    self.assertIs(error.given, value)

    def test_books_with_another_code(self):
        for wrong in ("[-]", "[-oA[A]]", "", None, b"[-.A]", ["[-.A]"], ("[-.A]",), " [-.A]", "[-.B]"):
            self.check_none(((spot(1), wrong), (), ()), (state(spot(1)), ((spot(2), wrong),), ()),
                            (state(spot(1)), (), ((spot(2), wrong),)),
                            (state(spot(1)), numbered(0, 1) + ((spot(2), wrong),), ()),
                            (state(spot(1)), (), numbered(0, 1) + ((spot(2), wrong),)))
        star = (("A", ("path", (at(0, 0), at(2, 0), at(1, 0), at(1, 1)))), ("B", ("path", (at(0, 0), at(2, 0)))),
                ("C", ("spot", at(0, 0))))
        self.assertNotEqual(code(least_map(star)), turned_code(least_map(star)))
        self.check_none(((star, turned_code(least_map(star))), (), ()))
        self.assertIs(is_book((state(star), (), ())), True)

    def test_what_is_no_book(self):
        book = (state(spot(2)), numbered(0, 2), numbered(3, 6))
        self.assertIs(is_book(book), True)
        self.check_none(None, True, 0, "", b"", [], {}, (), list(book), book[:2], book + ((),), book[0], HOME,
                        (list(book[0]),) + book[1:], (book[0], list(book[1]), book[2]), book[:2] + (list(book[2]),),
                        (book[0] + (1,),) + book[1:], (book[0][:1],) + book[1:], (book[0], None, ()),
                        (book[0], (), None), (book[0], book[0], ()), (book[0], (spot(1),), ()), (None, (), ()),
                        ((spot(1)[0], "[-.A]"), (), ()), ((list(spot(1)), "[-.A]"), (), ()),
                        (((("A", ("spot", ((True, 1), (0, 1)))),), "[-.A]"), (), ()), (book[0], ([],), ()),
                        (book[0], (list(book[1][0]),), ()), (book[0], (), (book[1][0][::-1],)), ((book[0],), (), ()))

    def test_books_bent_at_any_place(self):
        book = (state(spot(2)), numbered(0, 2), numbered(3, 6))
        for place in range(3):
            for other in (None, True, 0, "A", [], {}, (None,), (True,), ((),), [book[place]], (book[place],)):
                self.check_none(book[:place] + (other,) + book[place + 1:])

    def test_changes_by_deeds_that_do_not_fit(self):
        book = fresh_book(HOME)
        for deed in NONE_AT_ALL + (("strike", "A"), ("put", "A", (1,), DOT), ("point", "C", (), 4, at(1, 1))):
            error = failure(changed, book, deed)
            self.assertIs(error.__class__, errors.InvalidDeed)
            self.assertIs(error.given, deed)
        self.assertIs(failure(changed, None, None).__class__, errors.InvalidBook)
        self.assertIs(failure(fresh_book, None).__class__, errors.InvalidScene)

    def test_by_name(self):
        book = changed(book=fresh_book(scene=HOME), deed=("put", "A", (), FAR))
        self.assertEqual(undone(book=book)[0], state(HOME))
        self.assertEqual(done_again(book=undone(book=book)), book)
        self.assertIs(is_book(value=book), True)

    def test_random_rows_of_changes_undone_and_done_again(self):
        chance = random.Random(332)
        for scene in scenes(333, 12):
            book, rows, place = fresh_book(scene), [scene], 0
            for _ in range(30):
                way = chance.randrange(4)
                if way == 0 and place > 0:
                    book, place = undone(book), place - 1
                elif way == 1 and place + 1 < len(rows):
                    book, place = done_again(book), place + 1
                else:
                    deed = some_deed(chance, book[0][0])
                    if does_fit(book[0][0], deed):
                        rows = rows[:place + 1] + [behind_deed(book[0][0], deed)]
                        book, place = changed(book, deed), place + 1
                lost = max(0, len(rows) - 21 if place == len(rows) - 1 else 0)
                rows, place = rows[lost:], place - lost
                self.assertEqual(book[0], state(rows[place]))
                self.assertEqual([told for told, _ in book[1]], rows[:place][-20:])
                self.assertEqual([told for told, _ in book[2]], rows[place + 1:])
            self.assertIs(is_book(book), True)

    def test_works_tell_how_codes_change(self):
        book = fresh_book((("A", HALL), ("B", DOT)))
        for deed, work in ((("lead", (NIL, ONE, ONE, NIL, NIL, NIL)), "turned"), (("exchange", "B", "C"), "names"),
                           (("lead", (ONE, NIL, NIL, ONE, ONE, ONE)), "none"), (("strike", "A"), "anew")):
            self.assertEqual(work_of(book[0][0], deed), work)
            book = changed(book, deed)
        self.assertEqual(book[0][1], "[-.C]")
        self.assertEqual([told for _, told in book[1]],
                         ["[-(/AB 1A 0[A])]"] * 2 + ["[-(/AC 1A 0[A])]"] * 2)


if __name__ == "__main__":
    unittest.main()
