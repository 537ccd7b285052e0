"""Points 10.1 to 10.3: the journal."""

import random
import unittest

from trunkland.journal import Journal, checksum, read_journal, sealed

TEXTS = ["", " ", "a", "ab", "open 1 ann@x bob@x 5", "close 1 26 6", "7", "314", "a 314", "x  y ", " z", "a 7 7",
         "~" * 200, "0", "00 0"]


def by_powers(text):
    """Return the checksum, reckoned another way than the program does."""
    total = 7 * 31 ** len(text)
    for at, mark in enumerate(text):
        total += ord(mark) * 31 ** (len(text) - 1 - at)
    return total % 9973


def random_text(chance):
    return "".join(chance.choices("ab 017~", k=chance.choice([0, 1, 2, 5, 20])))


class ChecksumTest(unittest.TestCase):
    def test_written_out(self):
        self.assertEqual([checksum(""), checksum(" "), checksum("a"), checksum("bc")], [7, 249, 314, 9864])

    def test_any_text(self):
        chance = random.Random(11)
        for text in TEXTS + [random_text(chance) for _ in range(500)]:
            self.assertEqual(checksum(text), by_powers(text))
            self.assertIs(type(checksum(text)), int)

    def test_sealed(self):
        self.assertEqual([sealed(""), sealed("a"), sealed("bc")], [" 7\n", "a 314\n", "bc 9864\n"])
        for text in TEXTS:
            self.assertEqual(sealed(text), text + " " + str(by_powers(text)) + "\n")


class ReadTest(unittest.TestCase):
    def test_empty(self):
        self.assertEqual(read_journal(""), [])

    def test_one_line(self):
        for text in TEXTS:
            self.assertEqual(read_journal(sealed(text)), [text])

    def test_many_lines(self):
        self.assertEqual(read_journal("".join(sealed(text) for text in TEXTS)), TEXTS)

    def test_cut_anywhere(self):
        whole = "".join(sealed(text) for text in TEXTS)
        for many in range(len(whole) + 1):
            self.assertEqual(read_journal(whole[:many]), TEXTS[:whole[:many].count("\n")])

    def test_wrong_line_ends_the_reading(self):
        for wrong in ["a\n", "a 313\n", "a 3140\n", "a 31\n", "a  314\n", "a 314 \n", " a 314\n", "a 0314\n", "a 00314\n",
                      "a +314\n", "a 10287\n", "a314\n", "314\n", "\n", " \n", "7\n", " 07\n", "  7\n", "a x\n", "b 314\n",
                      "a 314a 314\n", "a 314\r\n", "a 314", "a"]:
            self.assertEqual(read_journal(wrong), [], wrong)
            self.assertEqual(read_journal(sealed("b") + wrong + sealed("c")), ["b"], wrong)
            self.assertEqual(read_journal(sealed("b") + sealed("b") + wrong), ["b", "b"], wrong)

    def test_leading_zeros(self):
        small = [text for text in ["a" * many + "b" * more for many in range(60) for more in range(30)]
                 if by_powers(text) < 1000]
        self.assertGreater(len(small), 20)
        for text in small:
            line = f"{text} {by_powers(text):04d}\n"
            self.assertEqual(read_journal(sealed("z") + line + sealed("z")), ["z"])
            self.assertEqual(read_journal(sealed(text)), [text])

    def test_one_character_changed(self):
        texts = ["open 1 ann@x bob@x 5", "", "close 1 26 6"]
        whole = "".join(sealed(text) for text in texts)
        for at in range(len(whole)):
            for mark in "0123456789 ~abz\n":
                if mark != whole[at]:
                    changed = whole[:at] + mark + whole[at + 1:]
                    found = read_journal(changed)
                    lines = changed.split("\n")[:-1]
                    expected = []
                    for line in lines:
                        text, _, last = line.rpartition(" ")
                        if " " not in line or last != str(by_powers(text)):
                            break
                        expected.append(text)
                    self.assertEqual(found, expected)
                    # The line that was changed is never read as it was.
                    self.assertEqual(found[:whole[:at].count("\n")], texts[:whole[:at].count("\n")])
                    self.assertNotEqual(found, texts)


class JournalTest(unittest.TestCase):
    def test_new(self):
        journal = Journal()
        self.assertEqual([journal.text, journal.synced, journal.after_crash(0), journal.after_crash(9)],
                         ["", 0, "", ""])
        journal.sync()
        self.assertEqual([journal.text, journal.synced], ["", 0])

    def test_append_and_sync(self):
        journal = Journal()
        self.assertIsNone(journal.append("a"))
        self.assertEqual([journal.text, journal.synced], ["a 314\n", 0])
        self.assertIsNone(journal.sync())
        self.assertEqual([journal.text, journal.synced], ["a 314\n", 6])
        journal.append("")
        self.assertEqual([journal.text, journal.synced], ["a 314\n 7\n", 6])

    def test_each_journal_is_its_own(self):
        one, other = Journal(), Journal()
        one.append("a")
        one.sync()
        self.assertEqual([other.text, other.synced], ["", 0])

    def test_crash(self):
        journal = Journal()
        journal.append("a")
        journal.sync()
        journal.append("bc")
        whole = "a 314\nbc 9864\n"
        for kept in range(20):
            self.assertEqual(journal.after_crash(kept), whole[:6 + kept])
            self.assertEqual(read_journal(journal.after_crash(kept)), ["a", "bc"] if kept >= 8 else ["a"])
        self.assertEqual([journal.text, journal.synced], [whole, 6])

    def test_any_journal(self):
        chance = random.Random(12)
        for _ in range(400):
            journal, texts, synced = Journal(), [], 0
            for _ in range(chance.randint(0, 15)):
                if chance.random() < 0.3:
                    journal.sync()
                    synced = len(texts)
                else:
                    texts.append(random_text(chance))
                    journal.append(texts[-1])
            whole = "".join(sealed(text) for text in texts)
            ends = [len("".join(sealed(text) for text in texts[:many])) for many in range(len(texts) + 1)]
            self.assertEqual([journal.text, journal.synced], [whole, ends[synced]])
            for kept in [0, 1, 2, 5, 30, len(whole), chance.randint(0, 200)]:
                left = journal.after_crash(kept)
                self.assertEqual(left, whole[:ends[synced] + kept])
                found = read_journal(left)
                self.assertGreaterEqual(len(found), synced)
                self.assertEqual(found, texts[:len([end for end in ends[1:] if end <= len(left)])])

    def test_example(self):
        journal = Journal()
        journal.append("a")
        journal.sync()
        journal.append("bc")
        self.assertEqual([journal.text, read_journal(journal.text), read_journal(journal.after_crash(3))],
                         ["a 314\nbc 9864\n", ["a", "bc"], ["a"]])
