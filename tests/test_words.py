"""Point 2.1: names, tags, numbers and addresses."""

import random
import re
import unittest

from trunkland.words import is_address, is_name, is_tag, read_number, split_address

MARKS = [chr(code) for code in range(32, 127)]
# These forms are written apart from the program, which uses no patterns.
NAME = re.compile("[a-z][a-z0-9]{0,15}")
TAG = re.compile("[A-Za-z0-9]{1,16}")
NUMBER = re.compile("0|[1-9][0-9]{0,8}")
ADDRESS = re.compile("([a-z][a-z0-9]{0,15})@([a-z][a-z0-9]{0,15})")

LONG = "abcdefghijklmnop"
NAMES = ["a", "z", "bob", "bob2", "a0", "z9", "x1y2", "azaz09", LONG, "a234567890123456"]
TAGS = NAMES + ["A", "Z", "0", "9", "7", "00", "t1W2", "2bob", "ABCDEFGHIJKLMNOP", "0123456789012345"]
NUMBERS = ["0", "1", "9", "10", "65535", "100000000", "999999999"]
ADDRESSES = ["a@b", "bob@x", "b2@p9", f"{LONG}@x", f"x@{LONG}", "abcdefghij@p2345678"]


def changed_words(word):
    """Return the words with one character changed, left out or added at any place."""
    words = [word[:at] + word[at + 1:] for at in range(len(word))]
    words += [word[:at] + mark + word[at + 1:] for at in range(len(word)) for mark in MARKS]
    words += [word[:at] + mark + word[at:] for at in range(len(word) + 1) for mark in MARKS]
    return words


class WordsTest(unittest.TestCase):
    def check(self, word):
        """Compare every function with the forms above; the kinds of the results, too."""
        self.assertIs(is_name(word), bool(NAME.fullmatch(word)), word)
        self.assertIs(is_tag(word), bool(TAG.fullmatch(word)), word)
        self.assertIs(is_address(word), bool(ADDRESS.fullmatch(word)), word)
        pair = ADDRESS.fullmatch(word)
        self.assertEqual(split_address(word), pair and pair.groups(), word)
        right = NUMBER.fullmatch(word)
        number = int(word) if right else None
        self.assertEqual(read_number(word, 999999999), number, word)
        if right:
            self.assertIs(type(read_number(word, 999999999)), int, word)

    def test_right_names(self):
        for word in NAMES:
            self.assertIs(is_name(word), True, word)

    def test_wrong_names(self):
        wrong = ["", "2bob", "0", "A", "Bob", "boB", "b_b", "_b", "b_", "b b", " b", "b ", "b-b", "b.b",
                 "b@x", "@", "{a", "a{", "`a", "a`", "a/", "a:", LONG + "q", "a2345678901234567"]
        for word in wrong:
            self.assertIs(is_name(word), False, word)

    def test_right_tags(self):
        for word in TAGS:
            self.assertIs(is_tag(word), True, word)

    def test_wrong_tags(self):
        wrong = ["", " ", "t ", " t", "t_1", "_", "c-1", "t.1", "t@x", "@", "[", "`", "{", "/", ":",
                 LONG + "q", "01234567890123456"]
        for word in wrong:
            self.assertIs(is_tag(word), False, word)

    def test_right_numbers(self):
        for word in NUMBERS:
            number = read_number(word, 999999999)
            self.assertEqual((number, str(number)), (int(word), word))

    def test_wrong_numbers(self):
        wrong = ["", " ", "00", "01", "07", "000000000", "012345678", "1000000000", "0000000001", "1234567890",
                 "+1", "-1", "-0", "+0", " 1", "1 ", "1_0", "1.0", "1,0", "0x1", "1e3", "a", "1a", "a1", "/", ":"]
        for word in wrong:
            self.assertIsNone(read_number(word, 9999999999), word)

    def test_number_and_its_limit(self):
        for most in [0, 1, 7, 9, 10, 99, 65535, 999999, 999999999]:
            self.assertEqual(read_number(str(most), most), most)
            self.assertEqual(read_number("0", most), 0)
            self.assertIsNone(read_number(str(most + 1), most))
            if most:
                self.assertEqual(read_number(str(most - 1), most), most - 1)

    def test_limit_does_not_allow_longer_numbers(self):
        self.assertEqual(read_number("999999999", 5000000000), 999999999)
        self.assertIsNone(read_number("1000000000", 5000000000))

    def test_zero_is_a_number_and_not_none(self):
        self.assertIsNotNone(read_number("0", 0))
        self.assertIs(type(read_number("0", 5)), int)

    def test_right_addresses(self):
        for word in ADDRESSES + [f"{LONG}@{LONG}"]:
            self.assertIs(is_address(word), True, word)
            pair = split_address(word)
            self.assertIs(type(pair), tuple)
            self.assertEqual("@".join(pair), word)
        self.assertEqual(split_address("bob@x"), ("bob", "x"))

    def test_wrong_addresses(self):
        wrong = ["", "@", "bob", "bob@", "@x", "bob@@x", "bob@x@", "@bob@x", "bob@x@y", "bob x", "bob @x",
                 "bob@ x", " bob@x", "bob@x ", "Bob@x", "bob@X", "2bob@x", "bob@2x", "b_b@x", "bob@x.y",
                 LONG + "q@x", "x@" + LONG + "q"]
        for word in wrong:
            self.assertIs(is_address(word), False, word)
            self.assertIsNone(split_address(word), word)

    def test_length_of_each_word(self):
        for length in range(21):
            right = 1 <= length <= 16
            self.assertIs(is_name("a" * length), right)
            self.assertIs(is_tag("A" * length), right)
            self.assertIs(is_address("b" * length + "@x"), right)
            self.assertIs(is_address("x@" + "b" * length), right)
            number = int("1" * length) if 1 <= length <= 9 else None
            self.assertEqual(read_number("1" * length, 10 ** 25), number)

    def test_every_mark_at_every_place(self):
        for word in NAMES + TAGS + NUMBERS + ADDRESSES:
            self.check(word)
            for changed in changed_words(word):
                self.check(changed)

    def test_short_words_of_any_marks(self):
        self.check("")
        for first in MARKS:
            self.check(first)
            for second in MARKS:
                self.check(first + second)
                self.check("a@" + first + second)

    def test_words_of_any_marks(self):
        chance = random.Random(21)
        pools = [MARKS, list("abyz019AZ_@"), list("0123456789"), list("abc09@"), list("ab1")]
        for _ in range(20000):
            pool = chance.choice(pools)
            self.check("".join([chance.choice(pool) for _ in range(chance.randint(0, 20))]))

    def test_example(self):
        found = [is_name("bob2"), is_name("2bob"), read_number("07", 99), read_number("7", 99),
                 read_number("100", 99)]
        self.assertEqual(found, [True, False, None, 7, None])
