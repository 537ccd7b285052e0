"""Points 14.5, 14.7 and 14.8: one call to a user at several places, letter by letter, until it ends."""

from exchange_help import AGAIN, LIMIT, OTHERS, ExchangeCase

from trunkland.letters import write

ENDED = ("end", 0, 1, "refused")


class RingingCase(ExchangeCase):
    """Ann at p calls bob at q, r and s; her leg is x0n1, theirs are x0n2, x0n3 and x0n4."""

    def call(self, *places, **more):
        self.make(**more)
        self.sign("bob", *(places or "qrs"))
        self.ann = self.dial("p", "bob")
        self.bobs = [self.far(place) for place in places or "qrs"]
        self.news()
        return self.bobs


class RingingTest(RingingCase):
    def test_first_place_that_rings(self):
        q, r, s = self.call()
        self.now = 3
        self.ring(r)
        self.check(["p 18 CALL p1>x0n1 1"], [("ring", 3, 1)])
        for far in [r, q, s]:
            self.ring(far)
            self.check([])

    def test_caller_hears_it_again_when_its_call_comes_again(self):
        q, _, _ = self.call()
        self.ring(q)
        self.put(write(self.ann.call), "p")
        self.assertEqual(self.sent, ["p 18 CALL p1>x0n1 1"])

    def test_first_answer_wins(self):
        q, r, s = self.call()
        self.ring(s)
        self.news()
        self.now = 7
        self.accept(r)
        self.check(["r KEEP x0n3>z1 2", "q STOP x0n2> 2", "s STOP x0n4> 4", "p 20 CALL p1>x0n1 1 [50 both b,a]"],
                   [("answer", 7, 1, "r")])
        self.assertEqual(self.exchange.ledger.pending(), [1])
        self.assertEqual(self.exchange.ledger.journal.text.split(" ")[:5], ["open", "1", "ann@x", "bob@x", "7"])
        self.assertEqual(self.exchange.ledger.journal.synced, len(self.exchange.ledger.journal.text))

    def test_answer_without_ringing(self):
        self.call("q")
        self.accept(self.bobs[0])
        self.check(["q KEEP x0n2>z1 1", "p 20 CALL p1>x0n1 1 [50 both b,a]"], [("answer", 0, 1, "q")])

    def test_offer_of_the_answer_is_passed_on_as_it_is(self):
        q, r, _ = self.call()
        self.accept(q, (7, "none", ("other",)))
        self.assertEqual(self.sent[-1], "p 20 CALL p1>x0n1 1 [7 none other]")

    def test_later_answers(self):
        q, r, s = self.call()
        self.accept(q)
        self.news()
        # The place had rung or answered before the STOP reached it.
        self.ring(r)
        self.check([])
        self.accept(r, OTHERS)
        self.check(["r KEEP x0n3>z1 2", "r END x0n3>z1 4"])
        self.accept(r, OTHERS)
        self.check(["r KEEP x0n3>z1 2"])
        self.refuse(s, 45)
        self.check(["s KEEP x0n4>z1 3"])
        self.ask(self.ann, "END", target_tag="x0n1")
        self.check(["p 20 END p1>x0n1 2", "q END x0n2>z1 2"], [("end", 0, 1, "caller")])

    def test_losers_replies_to_the_stop(self):
        q, r, _ = self.call()
        self.accept(q)
        self.news()
        for code in [20, 41]:
            self.reply(r, "STOP", code)
            self.check([])

    def test_answer_again_is_kept_again(self):
        q, _, _ = self.call()
        self.accept(q)
        self.news()
        self.accept(q, OTHERS)
        self.check(["q KEEP x0n2>z1 1"])
        self.refuse(q)
        self.check(["q KEEP x0n2>z1 1"])

    def test_answers_without_an_offer(self):
        q, r, _ = self.call()
        self.accept(q, None)
        self.check(["q KEEP x0n2>z1 1", "q END x0n2>z1 2"])
        self.ring(r)
        self.check(["p 18 CALL p1>x0n1 1"], [("ring", 0, 1)])
        self.accept(r)
        self.check(["r KEEP x0n3>z1 2", "s STOP x0n4> 4", "p 20 CALL p1>x0n1 1 [50 both b,a]"],
                   [("answer", 0, 1, "r")])

    def test_answers_without_an_offer_alone(self):
        self.call("q", "r")
        self.accept(self.bobs[0], None)
        self.refuse(self.bobs[1], 43)
        self.check(["r KEEP x0n3>z1 2", "p 48 CALL p1>x0n1 1"], [ENDED])

    def test_last_answer_without_an_offer(self):
        self.call("q")
        self.accept(self.bobs[0], None)
        self.check(["q KEEP x0n2>z1 1", "q END x0n2>z1 2", "p 48 CALL p1>x0n1 1"], [ENDED])


class RefusedTest(RingingCase):
    def refuse_all(self, *codes):
        """Let each place refuse with its code. Return the code that the caller is told."""
        self.call(*"qrst"[:len(codes)])
        for far, code in zip(self.bobs, codes):
            self.check([] if far is not self.bobs[0] else self.sent)
            self.refuse(far, code)
            last, self.sent = self.sent, self.sent[1:]
            self.assertEqual(last[0].split()[:2], [far.place, "KEEP"])
        self.assertEqual(self.news(), [ENDED])
        self.assertEqual(len(self.sent), 1)
        return int(self.sent[0].split()[1])

    def test_greatest_code(self):
        for codes in [[41], [43], [44], [45], [46], [48], [50], [44, 46, 43], [46, 44, 43], [43, 44, 46], [50, 41],
                      [41, 43, 44, 45], [48, 46], [44, 44]]:
            self.assertEqual(self.refuse_all(*codes), max(codes), codes)

    def test_places_that_end_count_as_48(self):
        for code, told in [(44, 48), (46, 48), (50, 50), (48, 48)]:
            q, r = self.call("q", "r")
            self.ask(q, "END", target_tag="x0n2")
            self.check(["q 20 END z1>x0n2 1"])
            self.refuse(r, code)
            self.check(["r KEEP x0n3>z1 2", f"p {told} CALL p1>x0n1 1"], [ENDED])

    def test_only_place_ends(self):
        q, = self.call("q")
        self.ring(q)
        self.news()
        self.ask(q, "END", target_tag="x0n2")
        self.check(["q 20 END z1>x0n2 1", "p 48 CALL p1>x0n1 1"], [ENDED])

    def test_places_that_do_not_reply_count_as_48(self):
        q, r = self.call("q", "r", first=1)
        self.refuse(q, 46)
        self.until(LIMIT)
        self.assertEqual(self.tick(), ["p 48 CALL p1>x0n1 1"])
        self.assertEqual(self.news(), [("end", LIMIT, 1, "refused")])

    def test_refused_call_has_no_bill(self):
        self.refuse_all(44, 46)
        self.assertEqual([self.bills(), self.exchange.ledger.pending(), self.exchange.ledger.journal.text], [[], [], ""])

    def test_refused_caller_hears_no_more(self):
        self.refuse_all(44)
        self.learn(self.ann)
        self.put(self.ann.keep(), "p")
        self.put(self.ann.ask("END"), "p")
        self.check(["p 41 END p1>x0n1 2"])
        self.accept(self.bobs[0])
        self.check(["q KEEP x0n2>z1 1"])


class EndingTest(RingingCase):
    def test_caller_stops(self):
        q, r, _ = self.call()
        self.ring(r)
        self.news()
        self.now = 4
        self.put(self.ann.ask("STOP"), "p")
        self.check(["p 45 CALL p1>x0n1 1", "p 20 STOP p1>x0n1 2", "q STOP x0n2> 2", "r STOP x0n3> 3",
                    "s STOP x0n4> 4"], [("end", 4, 1, "stopped")])
        self.assertEqual(self.bills(), [])
        for far in [q, r]:
            self.ring(far)
            self.check([])
        self.accept(q)
        self.check(["q KEEP x0n2>z1 1", "q END x0n2>z1 3"])

    def test_caller_cannot_end_what_is_not_answered(self):
        self.call("q")
        self.put(self.ann.ask("END", target_tag="x0n1"), "p")
        self.check(["p 41 END p1>x0n1 2"])

    def test_caller_ends(self):
        q, = self.call("q")
        self.accept(q)
        self.news()
        self.now = 25
        self.put(self.ann.ask("END", target_tag="x0n1"), "p")
        self.check(["p 20 END p1>x0n1 2", "q END x0n2>z1 2"], [("end", 25, 1, "caller")])
        self.assertEqual(self.bills(), [(1, "ann@x", "bob@x", 0, 25, 61)])
        self.assertEqual(self.exchange.ledger.pending(), [])

    def test_callee_ends(self):
        q, = self.call("q")
        self.accept(q)
        self.news()
        self.now = 25
        self.ask(q, "END", target_tag="x0n2")
        self.check(["q 20 END z1>x0n2 1", "p END x0n1>p1 1"], [("end", 25, 1, "callee")])
        self.assertEqual(self.bills(), [(1, "ann@x", "bob@x", 0, 25, 61)])

    def test_both_end_at_once(self):
        q, = self.call("q")
        self.accept(q)
        self.ask(q, "END", target_tag="x0n2")
        self.news()
        self.put(self.ann.ask("END", target_tag="x0n1"), "p")
        self.check(["p 41 END p1>x0n1 2"])
        self.assertEqual(len(self.bills()), 1)

    def test_stop_of_an_answered_call_has_no_effect(self):
        q, = self.call("q")
        self.accept(q)
        self.news()
        self.put(self.ann.ask("STOP"), "p")
        self.check(["p 20 STOP p1>x0n1 2"])

    def test_end_again(self):
        q, = self.call("q")
        self.accept(q)
        text = self.ann.ask("END", target_tag="x0n1")
        self.put(text, "p")
        self.news()
        self.now = 30
        self.put(text, "p")
        self.check(["p 20 END p1>x0n1 2"])
        self.assertEqual(self.bills(), [(1, "ann@x", "bob@x", 0, 0, 0)])


class OperatorTest(RingingCase):
    def end(self, number):
        self.note(self.exchange.hang_up(number, self.now))

    def test_ringing(self):
        self.call()
        self.ring(self.bobs[1])
        self.news()
        self.now = 9
        self.end(1)
        self.check(["p 50 CALL p1>x0n1 1", "q STOP x0n2> 2", "r STOP x0n3> 3", "s STOP x0n4> 4"],
                   [("end", 9, 1, "operator")])

    def test_talking(self):
        self.call()
        self.accept(self.bobs[0])
        self.news()
        self.now = 9
        self.end(1)
        self.check(["p END x0n1>p1 1", "q END x0n2>z1 2"], [("end", 9, 1, "operator")])
        self.assertEqual(self.bills(), [(1, "ann@x", "bob@x", 0, 9, 30)])

    def test_calls_that_do_not_exist_or_have_ended(self):
        self.call("q")
        for number in [0, 2, -1, 99]:
            self.end(number)
            self.check([])
        self.end(1)
        self.news()
        self.end(1)
        self.check([])

    def test_one_of_several_calls(self):
        self.call("q")
        self.dial("r", "bob")
        self.news()
        self.end(2)
        self.check(["r 50 CALL r1>x0n3 1", "q STOP x0n4> 3"], [("end", 0, 2, "operator")])
        self.end(1)
        self.check(["p 50 CALL p1>x0n1 1", "q STOP x0n2> 2"], [("end", 0, 1, "operator")])


class PatienceTest(RingingCase):
    def test_unanswered(self):
        q, r = self.call("q", "r", patience=10)
        self.ring(q)
        self.ring(r)
        self.news()
        self.assertEqual(self.until(10), [])
        self.assertEqual(self.tick(), ["p 48 CALL p1>x0n1 1", "q STOP x0n2> 2", "r STOP x0n3> 3"])
        self.assertEqual(self.news(), [("end", 10, 1, "unanswered")])
        self.assertEqual(self.bills(), [])

    def test_patience_begins_with_the_call(self):
        self.make(patience=10)
        self.sign("bob", "q")
        self.until(7)
        self.dial("p", "bob")
        self.ring(self.far("q"))
        self.news()
        self.until(17)
        self.assertEqual(self.news(), [])
        self.tick()
        self.assertEqual(self.news(), [("end", 17, 1, "unanswered")])

    def test_patience_of_one_tick(self):
        self.call("q", patience=1)
        self.assertEqual(self.ticks(2), [(1, ["p 48 CALL p1>x0n1 1", "q STOP x0n2> 2"])])

    def test_answered_calls_are_not_ended(self):
        q, = self.call("q", patience=10, check=1000)
        self.until(9)
        self.accept(q)
        self.news()
        self.learn(self.ann)
        self.put(self.ann.keep(), "p")
        self.assertEqual(self.until(40), [])
        self.assertEqual(self.news(), [])

    def test_legs_come_first_in_a_tick(self):
        """In one tick the CALL to q goes out once more, the one to s is given up, and the patience is over."""
        self.call("q", "r", patience=LIMIT, first=1)
        q, r = self.bobs
        self.ring(r)
        self.news()
        self.until(LIMIT)
        # Nothing is left of q when the patience is over.
        self.assertEqual(self.tick(), ["p 48 CALL p1>x0n1 1", "r STOP x0n3> 3"])
        self.assertEqual(self.news(), [("end", LIMIT, 1, "unanswered")])

    def test_repeating_comes_before_the_end(self):
        self.call("q", patience=7, first=1)
        self.until(7)
        self.assertEqual(self.tick(), ["q CALL ann@x>bob@x x0n2> 1 [40 both a,b]", "p 48 CALL p1>x0n1 1",
                                       "q STOP x0n2> 2"])

    def test_legs_of_all_calls_come_first(self):
        self.call("q", patience=7, first=1)
        self.dial("r", "bob")
        self.until(7)
        self.news()
        self.assertEqual(self.tick(), [
            "q CALL ann@x>bob@x x0n2> 1 [40 both a,b]", "q CALL ann@x>bob@x x0n4> 2 [40 both a,b]",
            "p 48 CALL p1>x0n1 1", "q STOP x0n2> 2", "r 48 CALL r1>x0n3 1", "q STOP x0n4> 3"])
        self.assertEqual(self.news(), [("end", 7, 1, "unanswered"), ("end", 7, 2, "unanswered")])

    def test_given_up_before_patience_in_the_same_tick(self):
        """The events of the legs are treated before the patience of any call."""
        self.call("q", patience=LIMIT, first=1)
        self.until(LIMIT)
        self.news()
        self.assertEqual(self.tick(), ["p 48 CALL p1>x0n1 1"])
        self.assertEqual(self.news(), [("end", LIMIT, 1, "refused")])


class TicksTest(RingingCase):
    """What goes out in the ticks when nothing comes."""

    def test_nothing_comes(self):
        self.call("q", "r", first=2)
        told = [(2 * now, [f"{place} CALL ann@x>bob@x x0n{number + 1}> {number} [40 both a,b]"
                           for number, place in [(1, "q"), (2, "r")]]) for now in AGAIN]
        refused = [(2 * (LIMIT + now), ["p 48 CALL p1>x0n1 1"]) for now in [0, *AGAIN]]
        self.assertEqual(self.ticks(4 * LIMIT), told + refused)
        self.assertEqual(self.news(), [("end", 2 * LIMIT, 1, "refused")])
        self.assertIs(self.exchange.is_quiet(), False)
        self.assertEqual(self.tick(), [])
        self.assertIs(self.exchange.is_quiet(), True)

    def test_answer_is_not_kept(self):
        """The caller does not confirm the answer: the call is lost when the reply is given up."""
        q, = self.call("q", first=1)
        self.accept(q)
        self.news()
        answers = [(now, ["p 20 CALL p1>x0n1 1 [50 both b,a]"]) for now in AGAIN]
        self.assertEqual(self.until(LIMIT), answers)
        self.assertEqual(self.tick(), ["p END x0n1>p1 1", "q END x0n2>z1 2"])
        self.assertEqual(self.news(), [("end", LIMIT, 1, "lost")])
        self.assertEqual(self.bills(), [(1, "ann@x", "bob@x", 0, LIMIT, 62)])

    def test_is_the_call_still_there(self):
        q, = self.call("q", first=1, check=10)
        self.accept(q)
        self.put(self.learned_keep(), "p")
        self.news()
        self.assertEqual(self.ticks(10), [])
        self.assertEqual(self.tick(), ["p LIVE x0n1>p1 1", "q LIVE x0n2>z1 2"])
        self.reply(self.ann, "LIVE", 20)
        self.reply(q, "LIVE", 20)
        # The next ones come so many ticks behind the replies.
        self.assertEqual(self.ticks(10), [])
        self.assertEqual(self.tick(), ["p LIVE x0n1>p1 2", "q LIVE x0n2>z1 3"])
        self.reply(q, "LIVE", 41)
        self.check(["p END x0n1>p1 3"], [("end", 22, 1, "lost")])

    def learned_keep(self):
        self.learn(self.ann)
        return self.ann.keep()

    def test_nobody_is_there_any_more(self):
        q, = self.call("q", first=1, check=10)
        self.accept(q)
        self.put(self.learned_keep(), "p")
        self.until(11)
        self.reply(q, "LIVE", 20)
        self.news()
        self.until(42)
        # The caller's leg is over, so the other one is hung up.
        self.assertEqual(self.tick(), ["p END x0n1>p1 2", "q END x0n2>z1 4"])
        self.assertEqual(self.news(), [("end", 42, 1, "lost")])

    def test_both_sides_are_lost_in_one_tick(self):
        q, = self.call("q", first=1, check=10)
        self.accept(q)
        self.put(self.learned_keep(), "p")
        self.news()
        self.until(42)
        self.assertEqual(self.tick(), ["p END x0n1>p1 2", "q END x0n2>z1 3"])
        self.assertEqual(self.news(), [("end", 42, 1, "lost")])
        self.assertEqual(len(self.bills()), 1)

    def test_order_of_more_than_nine_legs(self):
        """In a tick the legs come in the order of their numbers: 10 is behind 9."""
        self.make(first=1, most_calls=50)
        self.sign("bob", "q")
        for _ in range(6):
            self.dial("p", "bob")
        self.tick()
        self.assertEqual(self.tick(), [f"q CALL ann@x>bob@x x0n{2 * number}> {number} [40 both a,b]"
                                       for number in range(1, 7)])

    def test_quiet_when_all_is_over(self):
        q, = self.call("q", first=1)
        self.accept(q)
        self.put(self.learned_keep(), "p")
        self.put(self.ann.ask("END"), "p")
        self.reply(q, "END", 20)
        self.assertEqual(self.ticks(LIMIT), [])
        self.assertIs(self.exchange.is_quiet(), False)
        self.tick()
        self.assertIs(self.exchange.is_quiet(), True)
        # What comes then belongs to no leg any more.
        self.put(self.ann.ask("LIVE"), "p")
        self.assertEqual(self.sent, ["p 41 LIVE p1>x0n1 3"])
        self.put(self.ann.keep(), "p")
        self.assertEqual(self.sent, [])


class SyncTest(RingingCase):
    def test_journal_is_synced_at_the_end_of_ticks(self):
        for save in [1, 3, 8]:
            q, = self.call("q", save=save, check=1000)
            journal = self.exchange.ledger.journal
            self.until(2)
            self.accept(q)
            opened = len(journal.text)
            self.assertEqual(journal.synced, opened)
            self.until(4)
            self.put(self.ann.ask("END", target_tag="x0n1"), "p")
            self.assertGreater(len(journal.text), opened)
            for now in range(4, 20):
                self.assertEqual(journal.synced, opened if now <= -(-4 // save) * save else len(journal.text))
                self.tick()

    def test_end_in_the_tick_is_synced_in_it(self):
        q, = self.call("q", save=8, first=1)
        self.accept(q)
        self.until(LIMIT)
        journal = self.exchange.ledger.journal
        synced = journal.synced
        self.tick()
        self.assertGreater(len(journal.text), synced)
        self.assertEqual(journal.synced, len(journal.text))

    def test_tick_zero_is_divided_by_all(self):
        q, = self.call("q", save=64)
        self.accept(q)
        self.put(self.ann.ask("END", target_tag="x0n1"), "p")
        journal = self.exchange.ledger.journal
        self.assertLess(journal.synced, len(journal.text))
        self.tick()
        self.assertEqual(journal.synced, len(journal.text))
