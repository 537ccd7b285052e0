"""Points 11.1 to 11.4: bills, their records in the journal, and what is left of them behind a crash."""

import random
import unittest

from trunkland.journal import read_journal, sealed
from trunkland.ledger import Ledger, recover
from trunkland.tariffs import Tariff

TARIFF = Tariff(10, [(1, 30), (2, 5)], 1)
NAMES = ["ann@x", "bob@x", "a@b", "cat@other", f"{'u' * 16}@{'h' * 16}"]


def seal(*records):
    return "".join([sealed(record) for record in records])


class LedgerCase(unittest.TestCase):
    def check(self, ledger, bills, pending, greatest):
        self.assertEqual(ledger.bills(), bills)
        self.assertEqual(ledger.pending(), pending)
        self.assertEqual(ledger.greatest(), greatest)
        for number in range(greatest + 2):
            self.assertIs(ledger.is_open(number), number in pending)

    def check_recovered(self, text, now, bills):
        """Check that recovering gives these bills, all finished, and that doing so once more changes nothing."""
        ledger = recover(TARIFF, text, now)
        self.check(ledger, bills, [], max([bill[0] for bill in bills], default=0))
        self.assertEqual(ledger.journal.synced, len(ledger.journal.text))
        again = recover(TARIFF, ledger.journal.text, now + 1000)
        self.assertEqual(again.bills(), bills)
        self.assertEqual(again.journal.text, ledger.journal.text)
        self.assertEqual(again.journal.synced, ledger.journal.synced)
        return ledger


class LedgerTest(LedgerCase):
    def test_empty(self):
        ledger = Ledger(TARIFF)
        self.check(ledger, [], [], 0)
        self.assertIs(ledger.tariff, TARIFF)
        self.assertEqual((ledger.journal.text, ledger.journal.synced), ("", 0))

    def test_begin_and_finish(self):
        ledger = Ledger(TARIFF)
        ledger.begin(3, "ann@x", "bob@x", 5)
        self.check(ledger, [], [3], 3)
        ledger.begin(7, "bob@x", "cat@y", 5)
        self.check(ledger, [], [3, 7], 7)
        ledger.finish(7, 16)
        self.check(ledger, [(7, "bob@x", "cat@y", 5, 16, 35)], [3], 7)
        ledger.finish(3, 5)
        self.check(ledger, [(3, "ann@x", "bob@x", 5, 5, 0), (7, "bob@x", "cat@y", 5, 16, 35)], [], 7)

    def test_example(self):
        ledger = Ledger(Tariff(10, [], 2))
        ledger.begin(1, "ann@x", "bob@x", 5)
        ledger.finish(1, 26)
        self.assertEqual(ledger.bills(), [(1, "ann@x", "bob@x", 5, 26, 6)])
        crashed = recover(ledger.tariff, ledger.journal.after_crash(3), 40)
        self.assertEqual(crashed.bills(), [(1, "ann@x", "bob@x", 5, 40, 8)])
        self.assertIs(crashed.tariff, ledger.tariff)

    def test_records(self):
        ledger = Ledger(TARIFF)
        ledger.begin(3, "ann@x", "bob@x", 5)
        self.assertEqual(ledger.journal.text, seal("open 3 ann@x bob@x 5"))
        self.assertEqual(ledger.journal.synced, len(ledger.journal.text))
        ledger.finish(3, 26)
        self.assertEqual(ledger.journal.text, seal("open 3 ann@x bob@x 5", "close 3 26 40"))
        # The end of a bill is not synced, but with the next beginning.
        self.assertEqual(ledger.journal.synced, len(seal("open 3 ann@x bob@x 5")))
        ledger.begin(4, "ann@x", "bob@x", 26)
        self.assertEqual(ledger.journal.synced, len(ledger.journal.text))

    def test_lists_stay_as_they_were(self):
        ledger = Ledger(TARIFF)
        ledger.begin(1, "ann@x", "bob@x", 5)
        pending, bills = ledger.pending(), ledger.bills()
        ledger.finish(1, 6)
        self.assertEqual([pending, bills], [[1], []])
        bills = ledger.bills()
        bills.clear()
        ledger.pending().append(9)
        self.check(ledger, [(1, "ann@x", "bob@x", 5, 6, 30)], [], 1)

    def test_order_is_that_of_the_numbers(self):
        ledger = Ledger(TARIFF)
        for number in [2, 10, 11, 100]:
            ledger.begin(number, "ann@x", "bob@x", number)
        self.assertEqual(ledger.pending(), [2, 10, 11, 100])
        for number in [100, 10, 2]:
            ledger.finish(number, 200)
        self.assertEqual([bill[0] for bill in ledger.bills()], [2, 10, 100])
        self.check(ledger, ledger.bills(), [11], 100)

    def test_random_deeds_and_crashes(self):
        for seed in range(60):
            self.run_deeds(random.Random(seed))

    def run_deeds(self, chance):
        """Let bills begin and end, and crash at times; compare with a list of what each journal line says."""
        ledger, now, number = Ledger(TARIFF), chance.randint(0, 9), 0
        opened, closed, synced = {}, {}, {}
        for _ in range(60):
            now += chance.choice([0, 0, 1, 7, 25])
            unfinished = [one for one in opened if one not in closed]
            deed = chance.choice(["begin", "begin", "finish", "finish", "sync", "crash"])
            if deed == "begin":
                number += chance.choice([1, 1, 5])
                opened[number] = (*[chance.choice(NAMES) for _ in range(2)], now)
                ledger.begin(number, *opened[number])
                synced = dict(closed)
            elif deed == "finish" and unfinished:
                one = chance.choice(unfinished)
                ledger.finish(one, now)
                closed[one] = now
            elif deed == "sync":
                ledger.journal.sync()
                synced = dict(closed)
            elif deed == "crash":
                kept = chance.choice([0, 1, 10, 25, 40, 9999])
                text = ledger.journal.after_crash(kept)
                now = max(0, now + chance.choice([-20, 0, 5]))
                closed = self.kept_ends(text, opened, closed, synced, kept)
                ledger = recover(TARIFF, text, now)
                for one, (_, _, answered) in opened.items():
                    closed.setdefault(one, max(now, answered))
                self.assertEqual(ledger.journal.synced, len(ledger.journal.text))
                synced = dict(closed)
                # Behind a crash the ticks may be earlier, but bills that begin then begin in them.
                self.assertEqual(recover(TARIFF, ledger.journal.text, now + 9).bills(), ledger.bills())
            self.compare(ledger, opened, closed)

    def kept_ends(self, text, opened, closed, synced, kept):
        """Return the ends that a crash left: those that were synced, and of the others those whose line is whole."""
        ends = {}
        for record in read_journal(text):
            words = record.split(" ")
            if words[0] == "close":
                ends[int(words[1])] = int(words[2])
        self.assertEqual({**ends, **synced}, ends)
        self.assertEqual({**closed, **ends}, closed)
        if kept == 0:
            self.assertEqual(ends, synced)
        if kept == 9999:
            self.assertEqual(ends, closed)
        return ends

    def compare(self, ledger, opened, closed):
        bills = [(one, caller, callee, answered, closed[one], TARIFF.cost(closed[one] - answered))
                 for one, (caller, callee, answered) in sorted(opened.items()) if one in closed]
        self.check(ledger, bills, sorted([one for one in opened if one not in closed]), max(opened, default=0))


class RecoverTest(LedgerCase):
    OPEN = "open 1 ann@x bob@x 5"

    def test_nothing_left(self):
        ledger = self.check_recovered("", 9, [])
        self.assertEqual(ledger.journal.text, "")

    def test_finished_bill_keeps_its_end_and_cost(self):
        # The record counts, whatever the tariff would say, and wherever the present tick is.
        for close, end, cost in [("close 1 26 7", 26, 7), ("close 1 0 999999999", 0, 999999999),
                                 ("close 1 999999999 0", 999999999, 0)]:
            text = seal(self.OPEN, close)
            ledger = self.check_recovered(text, 3, [(1, "ann@x", "bob@x", 5, end, cost)])
            self.assertEqual(ledger.journal.text, text)

    def test_unfinished_bills_end_now_but_not_before_their_answer(self):
        text = seal("open 11 ann@x bob@x 50", "open 2 a@b c@d 60", "open 3 ann@y bob@y 0", "close 3 4 0")
        bills = [(2, "a@b", "c@d", 60, 60, 0), (3, "ann@y", "bob@y", 0, 4, 0), (11, "ann@x", "bob@x", 50, 55, 30)]
        ledger = self.check_recovered(text, 55, bills)
        # They are finished in the order of their numbers, not of their records.
        self.assertEqual(ledger.journal.text, text + seal("close 2 60 0", "close 11 55 30"))

    def test_number_with_a_bill_is_not_opened_again(self):
        other = "open 1 cat@x dan@x 6"
        for records, end, cost in [([self.OPEN, other], 9, 30), ([self.OPEN, self.OPEN], 9, 30),
                                   ([self.OPEN, "close 1 7 8", other], 7, 8)]:
            ledger = self.check_recovered(seal(*records), 9, [(1, "ann@x", "bob@x", 5, end, cost)])
            self.assertNotIn("cat", ledger.journal.text)
            self.assertEqual(ledger.journal.text.count("open"), 1)

    def test_number_without_unfinished_bill_is_not_closed(self):
        text = seal("close 1 2 3", self.OPEN, "close 2 6 7", "close 1 8 9", "close 1 10 11")
        ledger = self.check_recovered(text, 90, [(1, "ann@x", "bob@x", 5, 8, 9)])
        self.assertEqual(ledger.journal.text, seal(self.OPEN, "close 1 8 9"))

    def test_numbers_at_their_ends(self):
        top = 999999999
        text = seal(f"open 0 ann@x bob@x {top}", f"open {top} ann@x bob@x 0", f"close {top} {top} {top}", "close 0 0 0")
        bills = [(0, "ann@x", "bob@x", top, 0, 0), (top, "ann@x", "bob@x", 0, top, top)]
        ledger = recover(TARIFF, text, 3)
        self.assertEqual((ledger.bills(), ledger.greatest(), ledger.journal.text), (bills, top, text))

    def test_records_of_another_form(self):
        wrong = [
            "", " ", "open", "close", "open 2", "close 1", "close 1 9", "close 1 9 9 9", "close  1 9 9", "close 1 9 9 ",
            " close 1 9 9", "close 01 9 9", "close 1 09 9", "close 1 9 00", "close 1 -9 9", "close 1 9 9x",
            "close 1 1000000000 9", "close 1 9 1000000000", "close 1000000000 9 9", "close a 9 9", "closes 1 9 9",
            "Close 1 9 9", "shut 1 9 9", "open 2 ann@x bob@x", "open 2 ann@x bob@x 5 5", "open 2  ann@x bob@x 5",
            "open 2 ann@x bob@x 5 ", "open 02 ann@x bob@x 5", "open 2 ann@x bob@x 05", "open 2 ann bob@x 5",
            "open 2 ann@x bob@ 5", "open 2 ann@x @x 5", "open 2 Ann@x bob@x 5", "open 2 ann@x 9b@x 5",
            "open 2 ann@x bob@x 1000000000", "open 1000000000 ann@x bob@x 5", "open 2 ann@x bob@x x", "opens 2 a@x b@x 5",
            "OPEN 2 ann@x bob@x 5", "open 2 a@b@c bob@x 5", f"open 2 {'u' * 17}@x bob@x 5", "close 2 ann@x bob@x 5",
            "open 1 9 9",
        ]
        for record in wrong:
            for records in [[self.OPEN, record], [record, self.OPEN]]:
                ledger = self.check_recovered(seal(*records), 15, [(1, "ann@x", "bob@x", 5, 15, 30)])
                self.assertEqual(ledger.journal.text, seal(self.OPEN, "close 1 15 30"))

    def test_what_stands_behind_a_wrong_line(self):
        rest = seal("close 1 9 9", "open 2 ann@x bob@x 6")
        for line in ["close 1 8 8 1\n", "\n", "x\n", sealed("x").replace(" ", "  "), "x 0\n", "open 3 ann@x bob@x 5\n"]:
            self.check_recovered(seal(self.OPEN) + line + rest, 15, [(1, "ann@x", "bob@x", 5, 15, 30)])
        for cut in range(len(sealed("close 1 9 9"))):
            text = (seal(self.OPEN) + sealed("close 1 9 9")[:cut])
            self.check_recovered(text, 15, [(1, "ann@x", "bob@x", 5, 15, 30)])
        self.check_recovered(seal(self.OPEN, "close 1 9 9"), 15, [(1, "ann@x", "bob@x", 5, 9, 9)])

    def test_ledger_goes_on_behind_recovering(self):
        ledger = recover(TARIFF, seal(self.OPEN), 9)
        ledger.begin(2, "cat@x", "dan@x", 10)
        self.check(ledger, [(1, "ann@x", "bob@x", 5, 9, 30)], [2], 2)
        ledger.finish(2, 41)
        self.assertEqual(ledger.bills()[1], (2, "cat@x", "dan@x", 10, 41, 41))
        text = seal(self.OPEN, "close 1 9 30", "open 2 cat@x dan@x 10", "close 2 41 41")
        self.assertEqual(ledger.journal.text, text)
        self.assertEqual(ledger.journal.synced, len(text) - len(sealed("close 2 41 41")))

    def test_random_records(self):
        """Journals of any records: compare with what a plain reading of point 11.3 says."""
        chance = random.Random(11)
        for _ in range(300):
            records = [self.random_record(chance) for _ in range(chance.randint(0, 12))]
            now = chance.randint(0, 30)
            opened, closed, taken = {}, {}, []
            for record in records:
                words = record.split(" ")
                number = int(words[1])
                if words[0] == "open" and number not in opened:
                    opened[number] = (words[2], words[3], int(words[4]))
                    taken.append(record)
                elif words[0] == "close" and number in opened and number not in closed:
                    closed[number] = (int(words[2]), int(words[3]))
                    taken.append(record)
            for number in sorted(opened):
                if number not in closed:
                    end = max(now, opened[number][2])
                    closed[number] = (end, TARIFF.cost(end - opened[number][2]))
                    taken.append(f"close {number} {end} {closed[number][1]}")
            ledger = self.check_recovered(seal(*records), now,
                                          [(number, *opened[number], *closed[number]) for number in sorted(opened)])
            self.assertEqual(ledger.journal.text, seal(*taken))

    def random_record(self, chance):
        number = chance.randint(0, 4)
        if chance.random() < 0.5:
            return f"open {number} {chance.choice(NAMES)} {chance.choice(NAMES)} {chance.randint(0, 40)}"
        return f"close {number} {chance.randint(0, 40)} {chance.randint(0, 40)}"
