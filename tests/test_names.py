"""[2]: what a name is."""

import unittest

from callbinds.names import is_name

NOT_LETTERS = ["A", "Z", "0", "9", " ", "_", "-", "/", "|", "\n", "\r", "\t", "`", "{", ".", "!", "\0"]


class Names(unittest.TestCase):
    def test_one_to_eight_small_letters(self):
        for letter in "abcdefghijklmnopqrstuvwxyz":
            for many in range(1, 9):
                self.assertIs(is_name(letter * many), True, letter * many)
        for name in ["a", "z", "az", "name", "abcdefgh", "stuvwxyz"]:
            self.assertIs(is_name(name), True, name)

    def test_no_sign_and_nine_letters_and_more(self):
        self.assertIs(is_name(""), False)
        for many in [9, 10, 16, 100, 5000]:
            self.assertIs(is_name("a" * many), False)

    def test_another_sign_at_each_place(self):
        for sign in NOT_LETTERS:
            self.assertIs(is_name(sign), False, repr(sign))
            for many in range(1, 8):
                for at in range(many + 1):
                    text = "abcdefg"[:at] + sign + "abcdefg"[at:many]
                    self.assertIs(is_name(text), False, repr(text))
            self.assertIs(is_name("abcdefgh" + sign), False, repr(sign))

    def test_every_other_ascii_sign(self):
        for code in range(128):
            sign = chr(code)
            self.assertIs(is_name(sign), "a" <= sign <= "z", repr(sign))
            self.assertIs(is_name("ab" + sign), "a" <= sign <= "z", repr(sign))

    def test_what_is_no_text(self):
        for thing in [None, 0, 1, -1, 5, 10 ** 59, True, False, [], ["a"], ["a", "b"], (), ("a",), {}, {"a": 1},
                      {"a"}, set(), b"a", b"", object(), is_name, str, range(3), [[]], ([],), ({"a": []},)]:
            self.assertIs(is_name(thing), False, repr(thing))

    def test_what_is_handed_in_stays(self):
        thing = ["a", ["b"]]
        is_name(thing)
        self.assertEqual(thing, ["a", ["b"]])


if __name__ == "__main__":
    unittest.main()
