"""Points 2, 4 and 5: which error is raised first, and that it changes nothing."""

import unittest

from rowmarks import errors
from rowmarks.fates import Fates
from rowmarks.locklists import LockList
from oddities import NO_NUMBERS, twin
from pictures import picture

FREE = ("save", "release", "back", "prepare")
CHANGING = FREE + ("commit", "abort")
NUMBERED = CHANGING + ("state", "parts")
OF_PARTS = ("root", "owner", "fate", "transaction", "around", "joined_at", "ended_at")


def lock_list():
    return LockList(["x", "y"])


def scene(make=Fates):
    """1 fell to a crash, 2 has one open part, 3 two, 4 five, 5 is prepared, 6 committed, 7 aborted."""
    fates = make()
    fates.begin()
    fates.crash()
    for _ in range(6):
        fates.begin()
    fates.save(3)
    for _ in range(4):
        fates.save(4)
    fates.prepare(5)
    fates.commit(6)
    fates.save(7)
    fates.abort(7)
    return fates


class Refused(unittest.TestCase):
    make = Fates

    def scene(self):
        return scene(self.make)

    def refused(self, fates, word, value, name, attribute, kept):
        before = picture(fates)
        argument = "part" if word in OF_PARTS else "number"
        for named in (False, True):
            with self.subTest(word=word, value=repr(value), named=named):
                with self.assertRaises(errors.MarkError) as caught:
                    if named:
                        getattr(fates, word)(**{argument: value})
                    else:
                        getattr(fates, word)(value)
                self.assertEqual(caught.exception.__class__.__name__, name)
                self.assertIs(getattr(caught.exception, attribute), kept)
                self.assertEqual(picture(fates), before)

    def test_values_that_are_no_transactions(self):
        for fates, more in ((self.make(), (1,)), (self.scene(), (8, 9, 100))):
            for value in NO_NUMBERS + more:
                for word in NUMBERED:
                    kept = twin(value)
                    self.refused(fates, word, value, "UnknownTransaction", "value", value)
                    self.assertEqual(value, kept)

    def test_values_that_are_no_parts(self):
        for fates, more in ((self.make(), (1,)), (self.scene(), (14, 15, 100))):
            for value in NO_NUMBERS + more:
                for word in OF_PARTS:
                    self.refused(fates, word, value, "UnknownPart", "value", value)

    def test_the_last_part_of_the_scene_is_one(self):
        self.assertEqual(self.scene().transaction(13), 7)

    def test_ended_ones(self):
        fates = self.scene()
        for number in (1, 6, 7):
            for word in CHANGING:
                self.refused(fates, word, number, "Ended", "number", number)

    def test_ended_ones_that_were_prepared(self):
        fates = self.scene()
        fates.commit(5)
        for word in CHANGING:
            self.refused(fates, word, 5, "Ended", "number", 5)

    def test_prepared_ones(self):
        fates = self.scene()
        for word in FREE:
            self.refused(fates, word, 5, "Prepared", "number", 5)

    def test_only_the_first_part_open(self):
        fates = self.scene()
        for word in ("release", "back"):
            self.refused(fates, word, 2, "FirstPart", "number", 2)
            getattr(fates, word)(3)
            self.refused(fates, word, 3, "FirstPart", "number", 3)
            fates.save(3)

    def test_a_further_part_open(self):
        fates = self.scene()
        for number in (3, 4):
            self.refused(fates, "prepare", number, "StillOpen", "number", number)

    def test_five_parts_open(self):
        fates = self.scene()
        before = picture(fates)
        with self.assertRaises(errors.TooMany) as caught:
            fates.save(4)
        self.assertEqual((caught.exception.limit, picture(fates)), (5, before))

    def test_a_refused_operation_takes_no_number(self):
        fates = self.scene()
        was = fates.operations
        for word, number in (("release", 2), ("save", 4), ("commit", 6), ("prepare", 3), ("save", "2")):
            self.assertRaises(errors.MarkError, getattr(fates, word), number)
        fates.back(3)
        self.assertEqual((fates.operations, fates.ended_at(8)), (was + 1, was + 1))
        self.assertEqual(fates.save(2), 14)


class RefusedByALockList(Refused):
    make = staticmethod(lock_list)


if __name__ == "__main__":
    unittest.main()
