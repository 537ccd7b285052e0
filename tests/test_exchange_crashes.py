"""Points 14.9, 14.10 and 11.3: exchanges that crash and are started again."""

from exchange_help import ABLE, TARIFF, ExchangeCase, make_config

from trunkland.exchange import restart
from trunkland.journal import sealed
from trunkland.ledger import Ledger
from trunkland.letters import write

ALL = 9999


class CrashCase(ExchangeCase):
    def setUp(self):
        self.make(check=1000, save=64)
        self.lives = 0

    def crash(self, kept, now=None, **more):
        """Crash, and start the exchange again in a tick."""
        self.lives += 1
        text = self.exchange.ledger.journal.after_crash(kept)
        now = self.now if now is None else now
        self.use(restart(make_config(check=1000, save=64, **more), text, now, self.lives), now)
        self.check_new()
        return text

    def check_new(self):
        exchange = self.exchange
        self.assertEqual([exchange.events, exchange.places.bindings(self.now), exchange.ledger.pending()], [[], [], []])
        self.assertIs(exchange.is_quiet(), True)
        self.assertIs(exchange.ledger.tariff, exchange.config.tariff)
        self.assertEqual(exchange.ledger.journal.synced, len(exchange.ledger.journal.text))

    def talk_and_end(self, answered, ended):
        """Let a call be answered in a tick and ended in another one."""
        self.until(answered)
        ann, _ = self.talking()
        self.until(ended)
        self.ask(ann, "END")
        self.news()


class CrashTest(CrashCase):
    def test_nothing_has_happened(self):
        self.crash(ALL)
        self.assertEqual(self.bills(), [])
        self.sign("bob", "q")
        self.dial("p", "bob")
        self.check(["q CALL ann@x>bob@x x1n2> 10001 [40 both a,b]"], [("begin", 0, 1, "ann@x", "bob@x")])

    def test_call_that_is_talking(self):
        for kept in [0, 1, ALL]:
            self.setUp()
            self.until(5)
            self.talking()
            self.until(45)
            self.crash(kept)
            self.assertEqual(self.bills(), [(1, "ann@x", "bob@x", 5, 45, 62)])

    def test_call_that_has_ended(self):
        for kept, end, cost in [(0, 45, 62), (10, 45, 62), (ALL, 25, 60)]:
            self.setUp()
            self.talk_and_end(5, 25)
            self.until(45)
            self.crash(kept)
            self.assertEqual(self.bills(), [(1, "ann@x", "bob@x", 5, end, cost)])

    def test_end_that_is_synced_survives(self):
        self.talk_and_end(5, 25)
        self.until(65)
        self.crash(0)
        self.assertEqual(self.bills(), [(1, "ann@x", "bob@x", 5, 25, 60)])

    def test_part_of_a_line_is_lost(self):
        self.talk_and_end(5, 25)
        journal = self.exchange.ledger.journal
        behind = len(journal.text) - journal.synced
        self.until(45)
        self.crash(behind - 1)
        self.assertEqual(self.bills(), [(1, "ann@x", "bob@x", 5, 45, 62)])
        self.assertEqual(self.exchange.ledger.journal.text,
                         sealed("open 1 ann@x bob@x 5") + sealed("close 1 45 62"))

    def test_calls_without_an_answer_have_no_bill(self):
        self.sign("bob", "q")
        for _ in range(3):
            self.dial("p", "bob")
        self.crash(ALL)
        self.assertEqual(self.bills(), [])
        # So their numbers are used once more.
        self.sign("bob", "q")
        self.dial("p", "bob")
        self.check(["q CALL ann@x>bob@x x1n2> 10001 [40 both a,b]"], [("begin", 0, 1, "ann@x", "bob@x")])

    def test_numbers_go_on_behind_the_greatest_bill(self):
        self.sign("bob", "q")
        for _ in range(3):
            self.dial("p", "bob")
        self.accept(self.far("q"))
        self.dial("p", "bob")
        self.crash(0)
        self.sign("bob", "q")
        self.dial("p", "bob")
        self.check(["q CALL ann@x>bob@x x1n2> 10001 [40 both a,b]"], [("begin", 0, 4, "ann@x", "bob@x")])

    def test_ticks_may_go_back(self):
        self.until(30)
        self.talking()
        self.crash(0, now=10)
        self.assertEqual(self.bills(), [(1, "ann@x", "bob@x", 30, 30, 0)])
        self.talk_and_end(12, 14)
        self.assertEqual(self.bills()[1:], [(2, "ann@x", "bob@x", 12, 14, 30)])

    def test_several_lives(self):
        bills = []
        for life in range(4):
            now = 100 * life
            self.talk_and_end(now, now + 5)
            bills.append((2 * life + 1, "ann@x", "bob@x", now, now + 5, 30))
            self.talk_and_end(now + 7, now + 20)
            bills.append((2 * life + 2, "ann@x", "bob@x", now + 7, now + 20, 60))
            self.assertEqual(self.bills(), bills)
            self.until(100 * life + 100)
            self.crash(ALL)
            self.assertEqual(self.bills(), bills)
            self.assertEqual(self.exchange.ledger.greatest(), 2 * life + 2)
        self.sign("bob", "q", "r")
        self.assertEqual(self.sent, ["r 20 SIGN s>x4n0 1 stay 500"])
        self.dial("p", "bob")
        self.check(["q CALL ann@x>bob@x x4n2> 40001 [40 both a,b]", "r CALL ann@x>bob@x x4n3> 40002 [40 both a,b]"],
                   [("begin", 400, 9, "ann@x", "bob@x")])

    def test_most_restarts(self):
        self.use(restart(make_config(), "", 0, 99), 0)
        self.sign("bob", "q")
        self.dial("p", "bob")
        self.check(["q CALL ann@x>bob@x x99n2> 990001 [40 both a,b]"], [("begin", 0, 1, "ann@x", "bob@x")])
        self.accept(self.far("q"))
        self.exchange.hang_up(1, 0)
        self.assertEqual(self.requests["q", "CALL"].call, "x99n2c")

    def test_ends_of_calls_of_this_life_only(self):
        self.talking()
        self.crash(0)
        for number in [0, 1, 2]:
            self.note(self.exchange.hang_up(number, 9))
            self.check([])

    def test_other_texts(self):
        text = sealed("open 5 cat@y dan@z 3") + sealed("note") + sealed("open 2 a@b c@d 4") + "open 9 a@b c@d 4 1\n"
        self.use(restart(make_config(), text, 9, 1), 9)
        self.assertEqual(self.bills(), [(2, "a@b", "c@d", 4, 9, 30), (5, "cat@y", "dan@z", 3, 9, 30)])
        self.sign("bob", "q")
        self.dial("p", "bob")
        self.assertEqual(self.news(), [("begin", 9, 6, "ann@x", "bob@x")])


class LettersTest(CrashCase):
    """What phones say of calls that the exchange does not know any more."""

    def setUp(self):
        super().setUp()
        self.ann, self.bob = self.talking()
        self.turned = self.bob.ask("TURN", offer=ABLE)
        self.put(self.turned, "q")
        self.crash(0)

    def test_requests(self):
        for far in [self.ann, self.bob]:
            for verb in ["LIVE", "END", "TURN", "MOVE"]:
                self.put(far.ask(verb), far.place)
                self.check([f"{far.place} 41 {verb} {far.tag}>{far.other_tag} {far.seq}"])
        self.put(self.ann.ask("STOP", target_tag=""), "p")
        self.check([f"p 41 STOP p1>x1n0 {self.ann.seq}"])
        self.put(self.turned, "q")
        self.check(["q 41 TURN z1>x0n2 1"])

    def test_replies_and_keeps(self):
        self.put(self.ann.keep(), "p")
        self.put(self.bob.answer(20, ABLE), "q")
        self.check([])

    def test_new_legs_are_not_those_of_the_old_life(self):
        self.sign("bob", "q")
        self.dial("p", "bob")
        self.news()
        self.put(self.bob.answer(20, ABLE), "q")
        self.check([])
        self.put(self.bob.ask("END"), "q")
        self.check(["q 41 END z1>x0n2 2"])

    def test_greatest_numbers_are_forgotten(self):
        self.sign("bob", "q")
        self.put(write(self.ann.call), "p")
        self.check(["q CALL ann@x>bob@x x1n2> 10001 [40 both a,b]"], [("begin", 0, 2, "ann@x", "bob@x")])


class LedgerTest(CrashCase):
    def test_journal_is_that_of_a_ledger(self):
        self.talk_and_end(3, 30)
        self.talk_and_end(33, 34)
        ledger = Ledger(TARIFF)
        for number, answered, ended in [(1, 3, 30), (2, 33, 34)]:
            ledger.begin(number, "ann@x", "bob@x", answered)
            ledger.finish(number, ended)
        self.assertEqual(self.exchange.ledger.journal.text, ledger.journal.text)
        self.assertEqual(self.exchange.ledger.journal.synced, ledger.journal.synced)

    def test_journal_is_synced_by_each_answer_and_by_ticks(self):
        self.talk_and_end(3, 30)
        journal = self.exchange.ledger.journal
        self.assertEqual(journal.text[journal.synced:], sealed("close 1 30 61"))
        self.talk_and_end(33, 34)
        self.assertEqual(journal.text[journal.synced:], sealed("close 2 34 30"))
        self.until(64)
        self.assertEqual(journal.text[journal.synced:], sealed("close 2 34 30"))
        self.tick()
        self.assertEqual(journal.text[journal.synced:], "")
