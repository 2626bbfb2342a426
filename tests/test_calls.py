"""[7], [8], [2]: calls, laid out, and told of both lists."""

import copy
import unittest

from callbinds.calls import call_of, laid


class Laid(unittest.TestCase):
    def test_the_empty_call(self):
        self.assertEqual(laid([]), ([], []))
        self.assertEqual(laid([("row", []), ("book", []), ("row", [])]), ([], []))

    def test_each_kind_of_item(self):
        self.assertEqual(laid([("one", 5)]), ([5], []))
        self.assertEqual(laid([("row", [1, 2, 3])]), ([1, 2, 3], []))
        self.assertEqual(laid([("named", "a", 5)]), ([], [("a", 5)]))
        self.assertEqual(laid([("book", [("b", 1), ("a", 2)])]), ([], [("b", 1), ("a", 2)]))

    def test_items_in_any_order(self):
        call = [("named", "z", 9), ("row", [3, -4]), ("book", [("a", 1), ("z", 2)]), ("one", 5), ("row", []),
                ("named", "a", 1), ("book", []), ("one", 10 ** 60 - 1), ("row", [0])]
        self.assertEqual(laid(call), ([3, -4, 5, 10 ** 60 - 1, 0], [("z", 9), ("a", 1), ("z", 2), ("a", 1)]))

    def test_kinds(self):
        told = laid([("named", "a", 1), ("one", 2), ("book", [("b", 3)])])
        self.assertEqual([type(told), type(told[0]), type(told[1])], [tuple, list, list])
        self.assertEqual([type(pair) for pair in told[1]], [tuple, tuple])

    def test_great_calls(self):
        call = [("row", list(range(30))), ("book", [("a", k) for k in range(30)])] * 2 + [("row", [])] * 26
        things, pairs = laid(call)
        self.assertEqual(things, list(range(30)) * 2)
        self.assertEqual(pairs, [("a", k) for k in range(30)] * 2)

    def test_what_is_handed_in_stays(self):
        call = [("row", [1, 2]), ("one", 3), ("book", [("a", 4), ("a", 5)]), ("named", "b", 6)]
        before = copy.deepcopy(call)
        things, pairs = laid(call)
        things.append(9)
        things[0] = 8
        pairs.clear()
        self.assertEqual(call, before)
        self.assertEqual(laid(call), ([1, 2, 3], [("a", 4), ("a", 5), ("b", 6)]))

    def test_changed_behind(self):
        row, book = [1, 2], [("a", 3)]
        call = [("row", row), ("book", book)]
        told = laid(call)
        row.append(7)
        book.append(("b", 7))
        call.append(("one", 7))
        self.assertEqual(told, ([1, 2], [("a", 3)]))

    def test_one_row_alone_is_no_shared_list(self):
        row, book = [1], [("a", 2)]
        things, pairs = laid([("row", row), ("book", book)])
        things.append(5)
        pairs.append(("b", 5))
        self.assertEqual((row, book), ([1], [("a", 2)]))


class CallOf(unittest.TestCase):
    def test_told_of_both_lists(self):
        self.assertEqual(call_of([], []), [])
        self.assertEqual(call_of([3, 1], []), [("one", 3), ("one", 1)])
        self.assertEqual(call_of([], [("b", 1), ("a", -2), ("b", 3)]),
                         [("named", "b", 1), ("named", "a", -2), ("named", "b", 3)])
        self.assertEqual(call_of([0], [("a", 0)]), [("one", 0), ("named", "a", 0)])
        self.assertIs(type(call_of([1], [("a", 1)])), list)

    def test_there_and_back(self):
        things, pairs = list(range(60)), [("a", k) for k in range(60)]
        call = call_of(things, pairs)
        self.assertEqual(len(call), 120)
        self.assertEqual(laid(call), (things, pairs))
        self.assertEqual(call_of(*laid(call)), call)

    def test_lists_stay(self):
        things, pairs = [1, 2], [("a", 3)]
        call = call_of(things, pairs)
        call.append(("one", 5))
        self.assertEqual((things, pairs), ([1, 2], [("a", 3)]))
        told = call_of(things, pairs)
        things.clear()
        pairs.append(("b", 4))
        self.assertEqual(told, [("one", 1), ("one", 2), ("named", "a", 3)])


if __name__ == "__main__":
    unittest.main()
