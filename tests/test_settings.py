"""Points 0.4, 7.5, 14.7 and 15.3: the settings in use: the ticks of all letters and events when nothing comes."""

import itertools
import unittest

from exchange_help import ABLE, AGAIN, LIMIT, THEIRS, ExchangeCase, make_config, short

from trunkland.exchange import start
from trunkland.letters import Letter, read, write
from trunkland.network import World
from trunkland.phones import Phone

# Values of first, check, patience and auto that all differ.
SETTINGS = [(1, 7, 20, 3), (2, 50, 100, 30), (3, 10, 40, 12), (1, 90, 33, 32), (5, 33, 300, 200), (2, 1, 63, 64),
            (4, 200, 128, 129), (20, 1000, 641, 5), (3, 96, 97, 95), (7, 2, 5, 4)]


def repeats(begin, first, end):
    """Return the ticks in which a letter that was sent first in a tick is sent again, before this end."""
    return [begin + first * gap for gap in AGAIN if begin + first * gap < end]


class SettingsCase(unittest.TestCase):
    def run_phone(self, phone, ticks, found):
        """Let ticks pass; add each letter that is sent, with its tick. Return the first tick in which it is quiet."""
        quiet = None
        for now in range(ticks):
            found += [(now, told) for told in short(phone.tick(now))]
            if phone.is_quiet() and quiet is None:
                quiet = now
        return quiet

    def each_phone(self):
        for first, check, patience, auto in SETTINGS:
            phone = Phone(place="p", user="ann", host="x", able=ABLE, first=first, check=check, patience=patience,
                          auto=auto)
            yield phone, first, check, patience, auto


class PhoneTest(SettingsCase):
    """A phone with different settings, to which nothing comes but what begins the call."""

    def test_dialing(self):
        for phone, first, _, patience, _ in self.each_phone():
            limit = LIMIT * first
            found = [(0, told) for told in short(phone.dial("bob", 0))]
            quiet = self.run_phone(phone, 3 * limit + patience, found)
            call = "x CALL ann@x>bob@x p1> 1 [40 both a,b]"
            expected = [(0, call)] + [(now, call) for now in repeats(0, first, min(limit, patience + 1))]
            if patience < limit:
                expected += [(now, "x STOP p1> 2") for now in [patience, *repeats(patience, first, patience + limit)]]
                end = (patience, "p1", "hung", 45)
            else:
                end = (limit, "p1", "failed", 48)
            self.assertEqual(found, expected)
            self.assertEqual(phone.events, [("dial", 0, "p1", "bob@x"), ("end", *end)])
            self.assertEqual(quiet, patience + limit if patience < limit else limit)

    def call(self, phone, now=0):
        letter = Letter(verb="CALL", call="c1", origin="bob@x", origin_tag="t1", target="ann@x", target_tag="", seq=1,
                        way="w1", offer=THEIRS)
        return [(now, told) for told in short(phone.receive(write(letter), "x", now))]

    def test_being_called(self):
        for phone, first, check, patience, auto in self.each_phone():
            limit = LIMIT * first
            found = self.call(phone)
            quiet = self.run_phone(phone, 3 * limit + patience + auto, found)
            expected = [(0, "x 18 CALL t1>p1 1")]
            if auto > patience:
                expected += [(now, "x 48 CALL t1>p1 1")
                             for now in [patience, *repeats(patience, first, patience + limit)]]
                self.assertEqual(phone.events[1:], [("end", patience, "p1", "refused", 48)])
                self.assertEqual(quiet, patience + limit)
            else:
                answer = "x 20 CALL t1>p1 1 [40 both b,a]"
                lost = auto + limit
                expected += [(now, answer) for now in [auto, *repeats(auto, first, lost)]]
                number = 1
                if check < limit:
                    # What is asked in the meantime is repeated until it is given up, also when the call is over.
                    asked = auto + check
                    expected += [(now, "x LIVE p1>t1 1") for now in [asked, *repeats(asked, first, asked + limit)]]
                    number = 2
                expected += [(now, f"x END p1>t1 {number}") for now in [lost, *repeats(lost, first, lost + limit)]]
                self.assertEqual(phone.events[1:], [("talk", auto, "p1"), ("end", lost, "p1", "lost", 48)])
                self.assertEqual(quiet, lost + limit)
            self.assertEqual(sorted(found), sorted(expected))

    def test_talking(self):
        for phone, first, check, _, _ in self.each_phone():
            limit = LIMIT * first
            sent = phone.dial("bob", 0)
            phone.receive(write(read(sent[0][1]).reply(20, "t1", THEIRS)), "x", 0)
            found = []
            quiet = self.run_phone(phone, check + 3 * limit, found)
            lost = check + limit
            self.assertEqual(found, [(now, "x LIVE p1>t1 2") for now in [check, *repeats(check, first, lost)]]
                             + [(now, "x END p1>t1 3") for now in [lost, *repeats(lost, first, lost + limit)]])
            self.assertEqual(phone.events[2:], [("end", lost, "p1", "lost", 48)])
            self.assertEqual(quiet, lost + limit)

    def test_checking_again(self):
        for phone, _, check, _, _ in self.each_phone():
            sent = phone.dial("bob", 0)
            phone.receive(write(read(sent[0][1]).reply(20, "t1", THEIRS)), "x", 0)
            found = []
            for now in range(4 * check + 9):
                for _, text in phone.tick(now):
                    found.append(now)
                    phone.receive(write(read(text).reply(20, "t1")), "x", now)
            self.assertEqual(found, [check * number for number in range(1, len(found) + 1)])
            self.assertGreaterEqual(len(found), 4)


class ExchangeTest(ExchangeCase):
    """An exchange with different settings, to which nothing comes but what begins the call."""

    def each_exchange(self):
        for first, check, patience, _ in SETTINGS:
            self.make(first=first, check=check, patience=patience)
            yield first, check, patience

    def test_calling(self):
        for first, _, patience in self.each_exchange():
            limit = LIMIT * first
            self.sign("bob", "q")
            self.dial("p", "bob")
            found = [(now, told) for now, sent in self.ticks(3 * limit + patience) for told in sent]
            call, stop = "q CALL ann@x>bob@x x0n2> 1 [40 both a,b]", "q STOP x0n2> 2"
            end = min(limit, patience)
            expected = [(now, call) for now in repeats(0, first, min(limit, patience + 1))]
            expected += [(now, "p 48 CALL p1>x0n1 1") for now in [end, *repeats(end, first, end + limit)]]
            if patience < limit:
                expected += [(now, stop) for now in [end, *repeats(end, first, end + limit)]]
            self.assertEqual(sorted(found), sorted(expected))
            self.assertEqual(self.news()[1:], [("end", end, 1, "refused" if limit <= patience else "unanswered")])

    def test_ringing(self):
        for _, _, patience in self.each_exchange():
            self.sign("bob", "q", "r")
            self.dial("p", "bob")
            self.ring(self.far("q"))
            self.ring(self.far("r"))
            self.news()
            self.assertEqual(self.until(patience), [])
            self.assertEqual(self.tick(), ["p 48 CALL p1>x0n1 1", "q STOP x0n2> 2", "r STOP x0n3> 3"])
            self.assertEqual(self.news(), [("end", patience, 1, "unanswered")])

    def test_talking(self):
        for first, check, _ in self.each_exchange():
            limit = LIMIT * first
            self.talking()
            asked = [check, *repeats(check, first, check + limit)]
            self.assertEqual(self.until(check + limit), [(now, ["p LIVE x0n1>p1 1", "q LIVE x0n2>z1 2"]) for now in asked])
            self.assertEqual(self.tick(), ["p END x0n1>p1 2", "q END x0n2>z1 3"])
            self.assertEqual(self.news(), [("end", check + limit, 1, "lost")])

    def test_answer_that_is_not_kept(self):
        for first, check, _ in self.each_exchange():
            limit = LIMIT * first
            self.sign("bob", "q")
            self.dial("p", "bob")
            self.accept(self.far("q"))
            self.news()
            found = [(now, told) for now, sent in self.ticks(limit + 1) for told in sent if told.startswith("p 20")]
            self.assertEqual(found, [(now, "p 20 CALL p1>x0n1 1 [50 both b,a]") for now in repeats(0, first, limit)])
            self.assertEqual(self.news(), [("end", limit, 1, "lost")])

    def test_more_than_nine_legs(self):
        """In a tick the legs come in the order of their tags' numbers."""
        self.make(first=3, most_calls=50, patience=50)
        self.sign("bob", "q", "r")
        for _ in range(5):
            self.dial("p", "bob")
        numbers = [number for number in range(2, 16) if number % 3 != 1]
        self.assertEqual(self.ticks(4), [(3, [
            f"{'qr'[number % 3 == 0]} CALL ann@x>bob@x x0n{number}> {at} [40 both a,b]"
            for at, number in enumerate(numbers, 1)])])

    def test_several_calls_out_of_patience(self):
        self.make(first=20, most_calls=50, patience=15)
        self.sign("bob", "q", "r")
        for _ in range(12):
            self.dial("p", "bob")
        self.news()
        self.until(15)
        expected = []
        for number in range(12):
            tags = [3 * number + at for at in [1, 2, 3]]
            expected += [f"p 48 CALL p{number + 1}>x0n{tags[0]} {number + 1}",
                         f"q STOP x0n{tags[1]}> {2 * number + 2}", f"r STOP x0n{tags[2]}> {2 * number + 3}"]
        self.assertEqual(self.tick(), expected)
        self.assertEqual(self.news(), [("end", 15, number, "unanswered") for number in range(1, 13)])

    def test_only_old_calls_are_out_of_patience(self):
        self.make(first=20, most_calls=50, patience=15)
        self.sign("bob", "q")
        for _ in range(6):
            self.dial("p", "bob")
            self.tick()
        self.news()
        self.until(15)
        for number in range(1, 7):
            self.tick()
            self.assertEqual(self.news(), [("end", 14 + number, number, "unanswered")])


class DifferentTest(unittest.TestCase):
    """The settings of a phone do not matter to the exchange, nor to another phone."""

    def test_everybody_has_settings_of_its_own(self):
        for (first, check, patience, _), (other, _, waits, auto) in itertools.permutations(SETTINGS[:5], 2):
            ann = Phone(place="p", user="ann", host="x", able=ABLE, first=first, check=check, patience=patience)
            bob = Phone(place="q", user="bob", host="x", able=THEIRS, first=other, patience=waits, auto=auto)
            world = World(make_config(patience=17, first=20, check=1000), [ann, bob], [], 0)
            world.step([("sign", 1, 500)])
            world.step([])
            for _ in range(2 * max(patience, waits, 17)):
                world.step([("dial", 0, "bob")] if world.now == 2 else [])
            # Ann dials in tick 2, the call begins in tick 3 and is offered to bob in tick 4.
            ends = [(2 + patience, "ann"), (3 + 17, "exchange"), (4 + min(waits, auto), "bob")]
            self.assertEqual(min(ends)[1], self.first_end(ann, bob, world), (patience, waits, auto))

    def first_end(self, ann, bob, world):
        if ann.events[-1][3:] == ("hung", 45):
            return "ann"
        return "exchange" if world.exchange.events[-1][3] == "unanswered" else "bob"

    def test_longest_and_save(self):
        for longest, save in [(7, 3), (20, 5), (300, 64)]:
            exchange = start(make_config(longest=longest, save=save))
            sign = "request SIGN\ncall s1\nfrom bob@x s\nto bob@x\nseq 1\nway s1\nstay 100\n"
            exchange.receive(sign, "q", 2)
            self.assertEqual(exchange.places.bindings(2), [("bob", "q", 2 + min(longest, 100))])
            exchange.ledger.journal.append("x")
            for now in range(1, 65):
                self.assertEqual(exchange.ledger.journal.synced > 0, now > save)
                exchange.tick(now)
