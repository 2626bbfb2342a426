"""[12], [2]: changes of a call."""

import copy
import unittest

from callbinds.calls import call_of, laid
from callbinds.changes import changed
from callbinds.errors import CallError, NoChange

MIXED = [("named", "a", 1), ("row", [2, 3]), ("book", [("b", 4), ("a", 5)]), ("one", 6), ("row", []),
         ("named", "b", 7), ("book", [])]
ONES, NAMEDS = [("one", 2), ("one", 3), ("one", 6)], [("named", "a", 1), ("named", "b", 4), ("named", "a", 5),
                                                      ("named", "b", 7)]


class Changed(unittest.TestCase):
    def test_less(self):
        self.assertEqual(changed(MIXED, ("less",)), ONES[:2] + NAMEDS)
        self.assertEqual(changed([("one", 1)], ("less",)), [])
        self.assertEqual(changed([("row", [1, 2])], ("less",)), [("one", 1)])
        self.assertEqual(changed([("one", 1), ("row", [2]), ("row", [])], ("less",)), [("one", 1)])
        self.assertEqual(changed([("row", [2]), ("named", "a", 3), ("one", 1)], ("less",)),
                         [("one", 2), ("named", "a", 3)])

    def test_more(self):
        self.assertEqual(changed(MIXED, ("more",)), ONES + [("one", 0)] + NAMEDS)
        self.assertEqual(changed([], ("more",)), [("one", 0)])
        self.assertEqual(changed([("book", [("a", 1)])], ("more",)), [("one", 0), ("named", "a", 1)])

    def test_out(self):
        self.assertEqual(changed(MIXED, ("out", "a")), ONES + [NAMEDS[0], NAMEDS[1], NAMEDS[3]])
        self.assertEqual(changed(MIXED, ("out", "b")), ONES + NAMEDS[:3])
        self.assertEqual(changed([("named", "a", 1)], ("out", "a")), [])
        self.assertEqual(changed([("book", [("a", 1), ("a", 2), ("b", 3)])], ("out", "a")),
                         [("named", "a", 1), ("named", "b", 3)])
        self.assertEqual(changed([("named", "a", 1), ("book", [("a", 1)]), ("row", [4])], ("out", "a")),
                         [("one", 4), ("named", "a", 1)])

    def test_in(self):
        self.assertEqual(changed(MIXED, ("in", "a")), ONES + NAMEDS + [("named", "a", 0)])
        self.assertEqual(changed(MIXED, ("in", "c")), ONES + NAMEDS + [("named", "c", 0)])
        self.assertEqual(changed([], ("in", "abcdefgh")), [("named", "abcdefgh", 0)])

    def test_none_that_could_go(self):
        for call, change in [([], ("less",)), ([("row", [])], ("less",)), ([("named", "a", 1)], ("less",)),
                             ([("book", [("a", 1)]), ("row", [])], ("less",)), ([], ("out", "a")),
                             ([("one", 1), ("row", [2])], ("out", "a")), ([("named", "b", 1)], ("out", "a")),
                             ([("book", [])], ("out", "a")), ([("book", [("ab", 1), ("b", 2)])], ("out", "a"))]:
            before = copy.deepcopy(call)
            for kind in [NoChange, CallError, ValueError]:
                with self.assertRaises(kind, msg=(call, change)):
                    changed(call, change)
            self.assertEqual(call, before)

    def test_told_of_ones_and_nameds_alone(self):
        for change in [("less",), ("more",), ("out", "a"), ("in", "c")]:
            told = changed(MIXED, change)
            self.assertIs(type(told), list)
            self.assertEqual(told, call_of(*laid(told)))

    def test_the_call_stays_and_the_told_one_belongs_to_the_asker(self):
        call = copy.deepcopy(MIXED)
        for change in [("less",), ("more",), ("out", "a"), ("in", "c")]:
            told = changed(call, change)
            again = list(told)
            told.clear()
            self.assertEqual(call, MIXED)
            self.assertEqual(changed(call, change), again)

    def test_changed_behind(self):
        row, book = [1, 2], [("a", 3), ("b", 4)]
        told = changed([("row", row), ("book", book)], ("out", "b"))
        row.append(9)
        book.clear()
        self.assertEqual(told, [("one", 1), ("one", 2), ("named", "a", 3)])

    def test_one_behind_the_other(self):
        call = MIXED
        for change in [("less",), ("less",), ("less",), ("out", "a"), ("out", "a"), ("in", "a"), ("more",)]:
            call = changed(call, change)
        self.assertEqual(call, [("one", 0), ("named", "b", 4), ("named", "b", 7), ("named", "a", 0)])
        with self.assertRaises(NoChange):
            changed(changed(call, ("out", "a")), ("out", "a"))

    def test_a_great_told_call_is_handed_in_again(self):
        call = call_of(list(range(60)), [("a", k) for k in range(60)])
        self.assertEqual(changed(call, ("less",)), call[:59] + call[60:])
        self.assertEqual(changed(call, ("out", "a")), call[:-1])
        self.assertEqual(changed(changed(call, ("less",)), ("more",)), call[:59] + [("one", 0)] + call[60:])


if __name__ == "__main__":
    unittest.main()
