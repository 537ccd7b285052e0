"""Points 14.6 and 14.7: calls that are answered: turns, moves, and who is told what."""

from exchange_help import ABLE, LIMIT, OTHERS, THEIRS, ExchangeCase

from trunkland.letters import write

HELD = (50, "send", ("b", "a"))
STRANGE = (9, "both", ("z",))


class TalkCase(ExchangeCase):
    """Ann at p and bob at q talk; the legs are x0n1 and x0n2. Her offer is ABLE, his one is THEIRS."""

    def setUp(self):
        self.make(check=1000)
        self.begin()

    def begin(self):
        self.ann, self.bob = self.talking()

    def turn(self, far, offer):
        return self.ask(far, "TURN", offer=offer)


class TurnTest(TalkCase):
    def test_callee_turns(self):
        self.now = 6
        self.turn(self.bob, HELD)
        # The answer is what ann's offer says to it.
        self.check(["q 20 TURN z1>x0n2 1 [40 take b,a]", "p TURN x0n1>p1 1 [50 send b,a]"],
                   [("turn", 6, 1, 1, "send")])
        self.reply(self.ann, "TURN", 20, (40, "take", ("b",)))
        self.check([])

    def test_caller_turns(self):
        self.now = 6
        self.turn(self.ann, (40, "none", ("a", "c")))
        self.check(["p 20 TURN p1>x0n1 2 [50 none a]", "q TURN x0n2>z1 2 [40 none a,c]"], [("turn", 6, 1, 0, "none")])

    def test_whole_letters(self):
        text = self.bob.ask("TURN", offer=HELD)
        reply = "reply 20 TURN\ncall x0n2c\nfrom bob@x z1\nto ann@x x0n2\nseq 1\nway z1w1\noffer 40 take b,a\n"
        turn = "request TURN\ncall cp1\nfrom bob@x x0n1\nto ann@x p1\nseq 1\nway x0n1w1\noffer 50 send b,a\n"
        self.assertEqual(self.exchange.receive(text, "q", 0), [("q", reply), ("p", turn)])

    def test_latest_offer_counts(self):
        """What a side can do is the latest offer of the other one, not what it answers to a TURN."""
        self.turn(self.bob, HELD)
        self.reply(self.ann, "TURN", 20, (40, "take", ("b",)))
        self.turn(self.bob, THEIRS)
        self.assertEqual(self.sent[0], "q 20 TURN z1>x0n2 2 [40 both b,a]")
        self.reply(self.ann, "TURN", 20, (40, "both", ("b",)))
        self.news()
        self.turn(self.ann, (41, "send", ("a",)))
        self.check(["p 20 TURN p1>x0n1 2 [50 take a]", "q TURN x0n2>z1 2 [41 send a]"], [("turn", 0, 1, 0, "send")])
        self.turn(self.bob, (51, "both", ("c", "a")))
        self.check(["q 20 TURN z1>x0n2 3 [41 send a]", "p TURN x0n1>p1 3 [51 both c,a]"], [("turn", 0, 1, 1, "both")])

    def test_no_common_format(self):
        self.turn(self.bob, STRANGE)
        self.check(["q 46 TURN z1>x0n2 1"])
        self.turn(self.ann, STRANGE)
        self.check(["p 46 TURN p1>x0n1 2"])
        # Nothing has changed by them.
        self.turn(self.bob, HELD)
        self.assertEqual(self.sent[0], "q 20 TURN z1>x0n2 2 [40 take b,a]")

    def test_without_an_offer(self):
        self.turn(self.bob, None)
        self.check(["q 50 TURN z1>x0n2 1"])

    def test_same_turn_again(self):
        text = self.bob.ask("TURN", offer=HELD)
        self.put(text, "q")
        self.news()
        self.put(text, "q")
        self.check(["q 20 TURN z1>x0n2 1 [40 take b,a]"])

    def test_old_turn(self):
        late = self.bob.ask("TURN", offer=HELD)
        self.turn(self.bob, THEIRS)
        self.news()
        self.put(late, "q")
        self.check([])

    def test_turns_wait_for_the_reply(self):
        for number, mode in enumerate(["send", "none", "both"], 1):
            self.turn(self.bob, (50 + number, mode, ("a",)))
        # The next one goes out when the first one has been replied to, whatever the reply says.
        self.check(["q 20 TURN z1>x0n2 3 [40 both a]"],
                   [("turn", 0, 1, 1, mode) for mode in ["send", "none", "both"]])
        self.reply(self.ann, "TURN", 46)
        self.check(["p TURN x0n1>p1 2 [52 none a]"])
        self.reply(self.ann, "TURN", 20, ABLE)
        self.check(["p TURN x0n1>p1 3 [53 both a]"])
        self.reply(self.ann, "TURN", 50)
        self.check([])

    def test_turn_that_meets_a_lost_call(self):
        self.turn(self.bob, HELD)
        self.news()
        self.now = 3
        self.reply(self.ann, "TURN", 41)
        self.check(["q END x0n2>z1 2"], [("end", 3, 1, "lost")])

    def test_turn_that_is_given_up(self):
        self.turn(self.bob, HELD)
        self.news()
        self.until(2 * LIMIT)
        self.assertEqual(self.tick(), ["p END x0n1>p1 2", "q END x0n2>z1 2"])
        self.assertEqual(self.news(), [("end", 2 * LIMIT, 1, "lost")])

    def test_letters_without_a_tag_from_the_callee(self):
        """Only a leg that took a CALL is found without its tag."""
        self.ask(self.bob, "STOP", target_tag="")
        self.check(["q 41 STOP z1>x0n0 1"])
        self.ask(self.bob, "CALL", target_tag="", seq=90)
        self.check(["q 50 CALL z1>x0n3 90"], [("begin", 0, 2, "bob@x", "ann@x"), ("end", 0, 2, "refused")])

    def test_turn_before_the_answer(self):
        self.make()
        self.sign("bob", "q")
        ann = self.dial("p", "bob")
        bob = self.far("q")
        self.news()
        self.put(ann.ask("TURN", target_tag="x0n1", offer=HELD), "p")
        self.check(["p 41 TURN p1>x0n1 2"])
        self.put(bob.ask("TURN", target_tag="x0n2", offer=HELD), "q")
        self.check(["q 50 TURN z1>x0n2 1"])

    def test_confirming_the_answer_is_no_event(self):
        self.make(check=1000)
        self.sign("bob", "q")
        ann = self.dial("p", "bob")
        self.accept(self.far("q"))
        self.learn(ann)
        self.news()
        self.put(ann.keep(), "p")
        self.check([])
        self.assertEqual(self.ticks(70), [])


class MoveTest(TalkCase):
    """Cat is at r and s."""

    def begin(self):
        super().begin()
        self.sign("cat", "r", "s")

    def move(self, far, goal="cat@x"):
        return self.ask(far, "MOVE", goal=goal)

    def check_calls(self, reply, own, offer, *legs):
        """Check that a MOVE is replied to, and that legs call, each as its place, tag and sequence number."""
        told = [f"{place} CALL {own}>cat@x {tag}> {seq} [{offer}]" for place, tag, seq in legs]
        self.assertEqual(self.sent, [reply, *told])

    def test_callee_moves_the_caller(self):
        self.now = 4
        self.move(self.bob)
        # Cat is called by ann, with what ann can do.
        self.check_calls("q 20 MOVE z1>x0n2 1", "ann@x", "40 both a,b", ("r", "x0n3", 2), ("s", "x0n4", 3))
        self.assertEqual(self.news(), [("move", 4, 1, 1, "cat@x")])
        r, s = self.far("r", "y1"), self.far("s", "y2")
        self.assertEqual(r.call.call, "x0n3c")
        self.ring(r)
        self.check([])
        self.now = 9
        self.accept(s, OTHERS)
        self.check(["s KEEP x0n4>y2 3", "r STOP x0n3> 3", "q END x0n2>z1 2", "p TURN x0n1>p1 1 [60 both a,c]"],
                   [("moved", 9, 1, 1)])
        # Now ann and cat talk: cat can be turned to, and bob's leg is no part of the call.
        self.reply(self.bob, "END", 20)
        self.check([])
        self.reply(self.ann, "TURN", 20, ABLE)
        self.turn(s, (60, "send", ("a",)))
        self.check(["s 20 TURN y2>x0n4 1 [40 take a]", "p TURN x0n1>p1 2 [60 send a]"], [("turn", 9, 1, 1, "send")])
        self.ask(s, "END")
        self.check(["s 20 END y2>x0n4 2", "p END x0n1>p1 3"], [("end", 9, 1, "callee")])
        self.assertEqual(self.bills(), [(1, "ann@x", "bob@x", 0, 9, 30)])

    def test_caller_moves_the_callee(self):
        self.move(self.ann)
        # Cat is called by bob, with what bob can do.
        self.check_calls("p 20 MOVE p1>x0n1 2", "bob@x", "50 both b,a", ("r", "x0n3", 2), ("s", "x0n4", 3))
        self.assertEqual(self.news(), [("move", 0, 1, 0, "cat@x")])
        r = self.far("r", "y1")
        self.now = 2
        self.accept(r, OTHERS)
        self.check(["r KEEP x0n3>y1 2", "s STOP x0n4> 4", "p END x0n1>p1 1", "q TURN x0n2>z1 2 [60 both a,c]"],
                   [("moved", 2, 1, 0)])
        self.ask(r, "END")
        self.check(["r 20 END y1>x0n3 1", "q END x0n2>z1 3"], [("end", 2, 1, "caller")])

    def test_whole_letters(self):
        text = self.bob.ask("MOVE", goal="cat@x")
        reply = "reply 20 MOVE\ncall x0n2c\nfrom bob@x z1\nto ann@x x0n2\nseq 1\nway z1w1\n"
        call = "request CALL\ncall x0n{0}c\nfrom ann@x x0n{0}\nto cat@x\nseq {1}\nway x0n{0}w1\noffer 40 both a,b\n"
        self.assertEqual(self.exchange.receive(text, "q", 0),
                         [("q", reply), ("r", call.format(3, 2)), ("s", call.format(4, 3))])

    def test_addresses_of_later_moves(self):
        """Also after earlier moves the parties are called what the call's caller and callee are called."""
        self.move(self.ann)
        cat = self.far("r", "y1")
        self.accept(cat)
        self.reply(self.bob, "TURN", 20)
        self.sign("dan", "t")
        self.move(cat, "dan@x")
        self.assertEqual(self.sent, ["r 20 MOVE y1>x0n3 1", "t CALL bob@x>dan@x x0n5> 4 [50 both b,a]"])
        dan = self.far("t", "y3")
        self.accept(dan, OTHERS)
        self.assertEqual(self.sent, ["t KEEP x0n5>y3 4", "r END x0n3>y1 3", "q TURN x0n2>z1 3 [60 both a,c]"])
        self.reply(self.bob, "TURN", 20)
        self.move(self.bob, "dan@x")
        self.assertEqual(self.sent, ["q 20 MOVE z1>x0n2 1", "t CALL ann@x>dan@x x0n6> 5 [60 both a,c]"])

    def test_offer_of_a_move_is_the_latest_one(self):
        self.turn(self.ann, (41, "send", ("a",)))
        self.move(self.bob)
        self.check_calls("q 20 MOVE z1>x0n2 1", "ann@x", "41 send a", ("r", "x0n3", 2), ("s", "x0n4", 3))

    def test_able_of_the_leg_that_wins(self):
        """The other side turns while the move is under way: the winner can do what the replaced leg could."""
        self.move(self.bob)
        self.turn(self.ann, (41, "send", ("a", "c")))
        cat = self.far("r", "y1")
        self.accept(cat, OTHERS)
        self.turn(cat, (60, "both", ("a",)))
        self.assertEqual(self.sent[0], "r 20 TURN y1>x0n3 1 [41 send a]")

    def test_move_to_nobody(self):
        for number, goal in enumerate(["dan@x", "eve@x", "cat@y", "x@x"], 1):
            self.move(self.bob, goal)
            self.check([f"q 20 MOVE z1>x0n2 {number}"])
        # No move is under way then.
        self.move(self.bob)
        self.assertEqual(self.news(), [("move", 0, 1, 1, "cat@x")])

    def test_move_without_a_goal(self):
        self.move(self.bob, None)
        self.check(["q 50 MOVE z1>x0n2 1"])

    def test_one_move_at_a_time(self):
        self.move(self.bob)
        self.news()
        self.move(self.bob)
        self.check(["q 20 MOVE z1>x0n2 2"])
        self.move(self.ann)
        self.check(["p 20 MOVE p1>x0n1 2"])
        r, s = self.far("r"), self.far("s")
        self.refuse(r)
        self.refuse(s, 46)
        self.check(["s KEEP x0n4>z1 3"])
        self.move(self.ann)
        self.assertEqual(self.news(), [("move", 0, 1, 0, "cat@x")])

    def test_move_again_when_one_has_won(self):
        self.move(self.bob)
        cat = self.far("r", "y1")
        self.accept(cat)
        self.news()
        self.move(self.ann)
        self.check_calls("p 20 MOVE p1>x0n1 2", "bob@x", "50 both b,a", ("r", "x0n5", 4), ("s", "x0n6", 5))

    def test_all_places_refuse(self):
        self.move(self.bob)
        self.news()
        self.refuse(self.far("r"))
        self.check(["r KEEP x0n3>z1 2"])
        self.ask(self.far("s"), "END", target_tag="x0n4")
        self.check(["s 20 END z1>x0n4 1"])
        self.turn(self.bob, HELD)
        self.check(["q 20 TURN z1>x0n2 2 [40 take b,a]", "p TURN x0n1>p1 1 [50 send b,a]"],
                   [("turn", 0, 1, 1, "send")])

    def test_answers_without_an_offer(self):
        self.move(self.bob)
        self.news()
        r, s = self.far("r", "y1"), self.far("s", "y2")
        self.accept(r, None)
        self.check(["r KEEP x0n3>y1 2", "r END x0n3>y1 3"])
        self.accept(s)
        self.check(["s KEEP x0n4>y2 3", "q END x0n2>z1 2", "p TURN x0n1>p1 1 [50 both b,a]"], [("moved", 0, 1, 1)])

    def test_no_place_answers_with_an_offer(self):
        self.move(self.bob)
        self.accept(self.far("r"), None)
        self.accept(self.far("s"), None)
        self.assertEqual(self.sent, ["s KEEP x0n4>z1 3", "s END x0n4>z1 4"])
        self.news()
        self.move(self.ann)
        self.assertEqual(self.news(), [("move", 0, 1, 0, "cat@x")])

    def test_late_answers_of_a_move(self):
        self.move(self.bob)
        r, s = self.far("r", "y1"), self.far("s", "y2")
        self.accept(r)
        self.news()
        self.accept(s)
        self.check(["s KEEP x0n4>y2 3", "s END x0n4>y2 5"])
        self.accept(r)
        self.check(["r KEEP x0n3>y1 2"])

    def test_replaced_side_is_not_heard_any_more(self):
        self.move(self.bob)
        self.accept(self.far("r", "y1"))
        self.news()
        self.turn(self.bob, HELD)
        self.check(["q 41 TURN z1>x0n2 2"])
        self.ask(self.bob, "END")
        self.check(["q 41 END z1>x0n2 3"])
        self.reply(self.bob, "END", 41)
        self.check([])

    def test_replies_to_moves_are_ignored(self):
        self.turn(self.bob, HELD)
        self.news()
        self.reply(self.ann, "TURN", 20, (1, "none", ("q",)))
        self.check([])

    def test_move_patience(self):
        self.make(check=1000, patience=10)
        self.begin()
        self.until(3)
        self.move(self.bob)
        self.ring(self.far("r"))
        self.ring(self.far("s"))
        self.news()
        self.assertEqual(self.until(13), [])
        self.assertEqual(self.tick(), ["r STOP x0n3> 3", "s STOP x0n4> 4"])
        self.assertEqual(self.news(), [])
        self.assertEqual([self.exchange.ledger.pending(), self.bills()], [[1], []])
        # The call goes on, and another move may begin.
        self.accept(self.far("r", "y1"))
        self.check(["r KEEP x0n3>y1 2", "r END x0n3>y1 4"])
        self.move(self.ann)
        self.check_calls("p 20 MOVE p1>x0n1 2", "bob@x", "50 both b,a", ("r", "x0n5", 4), ("s", "x0n6", 5))

    def test_move_that_has_won_is_not_hung_up(self):
        self.make(check=1000, patience=10)
        self.begin()
        self.move(self.bob)
        cat = self.far("r", "y1")
        self.accept(cat)
        self.reply(self.ann, "TURN", 20)
        self.reply(self.bob, "END", 20)
        self.reply(self.far("s"), "STOP", 20)
        self.refuse(self.far("s"), 45)
        self.news()
        self.assertEqual(self.ticks(40), [])
        self.assertEqual(self.news(), [])

    def test_second_move_has_its_own_patience(self):
        self.make(check=1000, patience=10)
        self.begin()
        self.move(self.bob)
        self.refuse(self.far("r"))
        self.refuse(self.far("s"))
        self.until(5)
        self.move(self.bob)
        self.ring(self.far("r"))
        self.ring(self.far("s"))
        self.assertEqual(self.until(15), [])
        self.assertEqual(self.tick(), ["r STOP x0n5> 5", "s STOP x0n6> 6"])

    def test_places_that_do_not_reply(self):
        self.make(check=1000, first=1, patience=1000)
        self.begin()
        self.move(self.bob)
        self.until(LIMIT)
        self.news()
        self.assertEqual(self.tick(), [])
        self.assertEqual(self.news(), [])
        self.move(self.bob)
        self.assertEqual(self.news(), [("move", LIMIT + 1, 1, 1, "cat@x")])

    def test_end_while_a_move_is_under_way(self):
        self.move(self.bob)
        self.news()
        self.ask(self.ann, "END")
        self.check(["p 20 END p1>x0n1 2", "q END x0n2>z1 2", "r STOP x0n3> 3", "s STOP x0n4> 4"],
                   [("end", 0, 1, "caller")])
        self.accept(self.far("r", "y1"))
        self.check(["r KEEP x0n3>y1 2", "r END x0n3>y1 4"])

    def test_asker_ends_while_its_move_is_under_way(self):
        self.move(self.bob)
        self.news()
        self.ask(self.bob, "END")
        self.check(["q 20 END z1>x0n2 2", "p END x0n1>p1 1", "r STOP x0n3> 3", "s STOP x0n4> 4"],
                   [("end", 0, 1, "callee")])

    def test_operator_while_a_move_is_under_way(self):
        self.move(self.bob)
        self.news()
        self.note(self.exchange.hang_up(1, 5))
        self.check(["p END x0n1>p1 1", "q END x0n2>z1 2", "r STOP x0n3> 3", "s STOP x0n4> 4"],
                   [("end", 5, 1, "operator")])

    def test_same_move_again(self):
        text = self.bob.ask("MOVE", goal="cat@x")
        self.put(text, "q")
        self.news()
        self.put(text, "q")
        self.check(["q 20 MOVE z1>x0n2 1"])
        self.refuse(self.far("r"))
        self.refuse(self.far("s"))
        self.put(text, "q")
        self.check(["q 20 MOVE z1>x0n2 1"])

    def test_moves_of_two_calls(self):
        """The calls lose their patience in their order, also where it is that of a move."""
        self.make(check=1000, patience=10, first=1)
        self.begin()
        self.tick()
        eve = self.dial("t", "bob", origin="eve@x")
        self.accept(self.far("q", "z2"))
        self.learn(eve)
        self.put(eve.keep(), "t")
        self.put(eve.ask("MOVE", goal="cat@x"), "t")
        self.ring(self.far("r"))
        self.ring(self.far("s"))
        self.move(self.bob)
        self.ring(self.far("r"))
        self.ring(self.far("s"))
        self.dial("p", "cat")
        self.until(11)
        self.news()
        self.assertEqual(self.tick(), ["r STOP x0n7> 6", "s STOP x0n8> 7", "r STOP x0n5> 4", "s STOP x0n6> 5",
                                       "p 48 CALL p2>x0n9 2", "r STOP x0n10> 8", "s STOP x0n11> 9"])
        self.assertEqual(self.news(), [("end", 11, 3, "unanswered")])

    def test_event_of_a_side_before_the_events_of_a_move(self):
        """In one tick a side is lost and the legs of its move are given up: the call ends."""
        self.make(check=1000, first=1, patience=1000)
        self.begin()
        self.move(self.bob)
        self.turn(self.bob, HELD)
        self.news()
        self.until(LIMIT)
        self.assertEqual(self.tick(), ["p END x0n1>p1 2", "q END x0n2>z1 2"])
        self.assertEqual(self.news(), [("end", LIMIT, 1, "lost")])

    def test_letters_of_a_phone_that_is_moved(self):
        """The call of ann goes on with the same tags, whoever is on the other side."""
        self.move(self.bob)
        cat = self.far("r", "y1")
        self.accept(cat, OTHERS)
        self.reply(self.ann, "TURN", 20)
        self.news()
        self.put(write(self.ann.call), "p")
        self.check([])
        self.put(self.ann.ask("STOP"), "p")
        self.check(["p 20 STOP p1>x0n1 2"])
        self.turn(self.ann, (40, "none", ("c",)))
        self.check(["p 20 TURN p1>x0n1 3 [60 none c]", "r TURN x0n3>y1 3 [40 none c]"],
                   [("turn", 0, 1, 0, "none")])
