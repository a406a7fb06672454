"""Point 11, what it says of sets: their numbers, what they keep, and which one fits."""

import unittest

from rowmarks.errors import MarkError, UnknownSet
from rowmarks.sets import SetBook
from oddities import NO_NUMBERS, Stranger, twin
from pictures import book_picture
from starts import fates_of

ONE, TWO, THREE = (1, "locks", "hold"), (2, "changes", "change"), (3, "locks", "keep")


class Writing(unittest.TestCase):
    def test_without_sets(self):
        book = SetBook()
        self.assertEqual((len(book), book.taken(), 1 in book), (0, [], False))

    def test_numbers_from_1_on(self):
        book = SetBook()
        self.assertEqual([book.write([ONE]) for _ in range(4)], [1, 2, 3, 4])
        self.assertEqual((len(book), book.taken()), (4, [1, 2, 3, 4]))

    def test_behind_forgotten_numbers(self):
        book = SetBook()
        for _ in range(5):
            book.write([ONE])
        self.assertEqual([book.forget(4), book.forget(2)], [None, None])
        self.assertEqual([book.write([TWO]), book.taken(), book.write([TWO]), book.write([TWO])], [2, [1, 2, 3, 5], 4, 6])
        book.forget(1)
        self.assertEqual((book.write([THREE]), book[1]), (1, (THREE,)))

    def test_behind_put(self):
        book = SetBook()
        self.assertIsNone(book.put(2, [TWO]))
        self.assertEqual([book.write([ONE]), book.write([THREE]), book.taken()], [1, 3, [1, 2, 3]])
        book.put(10 ** 6, ())
        book.put(5, [ONE, TWO])
        self.assertEqual([book.write([ONE]), book.write([ONE]), book.taken()], [4, 6, [1, 2, 3, 4, 5, 6, 10 ** 6]])
        self.assertEqual((book[2], book[5], book[10 ** 6], len(book)), ((TWO,), (ONE, TWO), (), 7))

    def test_put_with_a_forgotten_number(self):
        book = SetBook()
        book.put(10 ** 6, [ONE])
        book.forget(10 ** 6)
        self.assertEqual((10 ** 6 in book, len(book)), (False, 0))
        book.put(10 ** 6, [TWO])
        self.assertEqual((book[10 ** 6], book.taken()), ((TWO,), [10 ** 6]))

    def test_members_as_they_were_given(self):
        forty = [(part, "locks", "hold") for part in range(40, 0, -1)]
        for given in ([], [ONE], [THREE, ONE, TWO], [ONE, ONE, TWO, ONE], forty):
            for some in (given, tuple(given)):
                book = SetBook()
                book.put(7, some)
                self.assertEqual(book.write(some), 1)
                for number in (1, 7):
                    self.assertIsInstance(book[number], tuple)
                    self.assertEqual(book[number], tuple(given))

    def test_the_list_is_changed_behind_the_call(self):
        book, given = SetBook(), [ONE, TWO]
        book.write(given)
        book.put(9, given)
        self.assertEqual(given, [ONE, TWO])
        given.append(THREE)
        given[0] = THREE
        self.assertEqual((book[1], book[9]), ((ONE, TWO), (ONE, TWO)))

    def test_by_name(self):
        book = SetBook()
        self.assertEqual([book.write(members=(ONE,)), book.put(number=3, members=[TWO])], [1, None])
        self.assertEqual([book.fitting(need=(ONE,), fates=fates_of(1, 1)), book.forget(number=1), book.taken()], [1, None, [3]])


class Asking(unittest.TestCase):
    def book(self):
        book = SetBook()
        book.put(1, [ONE])
        book.put(4, (TWO, ONE))
        book.put(10 ** 6, [])
        return book

    def test_values_that_are_no_numbers_of_sets(self):
        for book in (SetBook(), self.book()):
            for value in NO_NUMBERS + (2, 3, 5, 999999, 10 ** 6 + 1, ONE, (ONE,), Stranger()):
                before, kept = book_picture(book), twin(value)
                for ask in (book.__getitem__, book.forget):
                    with self.subTest(repr(value)), self.assertRaises(UnknownSet) as caught:
                        ask(value)
                    self.assertIs(caught.exception.value, value)
                    self.assertIsInstance(caught.exception, MarkError)
                self.assertIs(value in book, False)
                self.assertEqual(book_picture(book), before)
                if not isinstance(value, Stranger):
                    self.assertEqual(value, kept)

    def test_a_forgotten_one(self):
        book = self.book()
        book.forget(4)
        self.assertEqual((len(book), book.taken(), 4 in book), (2, [1, 10 ** 6], False))
        for ask in (book.__getitem__, book.forget):
            with self.assertRaises(UnknownSet) as caught:
                ask(4)
            self.assertEqual(caught.exception.value, 4)

    def test_those_that_are_there(self):
        book = self.book()
        self.assertEqual([number in book for number in (1, 4, 10 ** 6)], [True] * 3)
        self.assertEqual((len(book), book.taken()), (3, [1, 4, 10 ** 6]))

    def test_the_told_list_is_new(self):
        book = self.book()
        book.taken().clear()
        book.taken().append(2)
        self.assertEqual(book.taken(), [1, 4, 10 ** 6])
        self.assertEqual(book.write([]), 2)

    def test_taken_is_ascending_however_the_sets_came(self):
        book = SetBook()
        for number in (30, 2, 10 ** 6, 7, 1):
            book.put(number, [ONE])
        self.assertEqual(book.taken(), [1, 2, 7, 30, 10 ** 6])

    def test_a_book_is_not_iterated_over(self):
        self.assertRaises(TypeError, list, self.book())


class Fitting(unittest.TestCase):
    def test_the_least_of_several(self):
        book, fates = SetBook(), fates_of(1, 1, 1)
        for number, members in ((9, [ONE, TWO]), (3, [TWO, ONE]), (5, [ONE, TWO, ONE]), (2, [ONE]), (1, [TWO])):
            book.put(number, members)
        self.assertEqual(book.fitting((ONE, TWO), fates), 3)
        book.forget(3)
        self.assertEqual(book.fitting((ONE, TWO), fates), 5)
        book.forget(5)
        self.assertEqual(book.fitting((ONE, TWO), fates), 9)
        book.forget(9)
        self.assertIsNone(book.fitting((ONE, TWO), fates))

    def test_none_fits(self):
        book, fates = SetBook(), fates_of(1, 1, 1)
        self.assertIsNone(book.fitting((), fates))
        self.assertIsNone(book.fitting((ONE,), fates))
        book.write([ONE, TWO, THREE])
        self.assertIsNone(book.fitting((ONE, TWO), fates))
        self.assertIsNone(book.fitting((), fates))

    def test_the_empty_need(self):
        book, fates = SetBook(), fates_of(1, 1, 1)
        book.put(4, [])
        book.put(2, [ONE])
        self.assertEqual(book.fitting((), fates), 4)
        fates.commit(1)
        self.assertEqual(book.fitting((), fates), 2)

    def test_behind_ends(self):
        book, fates = SetBook(), fates_of(1, 1, 1)
        book.put(1, [ONE, TWO, THREE])
        book.put(2, [TWO, THREE])
        self.assertEqual(book.fitting((TWO, THREE), fates), 2)
        fates.abort(1)
        self.assertEqual(book.fitting((TWO, THREE), fates), 1)
        fates.commit(2)
        self.assertEqual(book.fitting((TWO, THREE), fates), 1)
        fates.commit(3)
        self.assertEqual((book.fitting((TWO,), fates), book.fitting((TWO, THREE), fates)), (1, None))

    def test_behind_a_release(self):
        book, fates = SetBook(), fates_of(1)
        fates.save(1)
        book.put(1, [(2, "locks", "keep")])
        book.put(2, [(1, "locks", "keep")])
        need = ((1, "locks", "keep"),)
        self.assertEqual(book.fitting(need, fates), 2)
        fates.release(1)
        self.assertEqual((book.fitting(need, fates), book.fitting(((2, "locks", "keep"),), fates)), (1, None))

    def test_canonical_members_count_and_not_the_members(self):
        book, fates = SetBook(), fates_of(1, 1, 1)
        book.put(6, [ONE, (1, "locks", "keep"), THREE, THREE])
        self.assertEqual(book.fitting(((1, "locks", "keep"), THREE), fates), 6)
        self.assertIsNone(book.fitting((ONE, (1, "locks", "keep"), THREE), fates))

    def test_fitting_changes_nothing(self):
        book, fates = SetBook(), fates_of(1, 1, 1)
        book.put(2, [TWO, ONE])
        before = book_picture(book)
        book.fitting((ONE, TWO), fates)
        book.fitting((), fates)
        self.assertEqual(book_picture(book), before)


class SideBySide(unittest.TestCase):
    def test_two_books(self):
        one, other = SetBook(), SetBook()
        one.write([ONE])
        one.write([TWO])
        self.assertEqual((len(other), other.taken(), 1 in other), (0, [], False))
        self.assertEqual(other.write([THREE]), 1)
        other.forget(1)
        self.assertEqual(book_picture(one), (2, [1, 2], [(ONE,), (TWO,)]))


if __name__ == "__main__":
    unittest.main()
