"""Points 14.1 to 14.4: letters that begin something at an exchange, or that belong to nothing."""

from exchange_help import ABLE, THEIRS, ExchangeCase, make_config

from trunkland.config import Config
from trunkland.exchange import restart, start
from trunkland.letters import Letter, read, write
from trunkland.tariffs import Tariff

REQUESTS = ["STOP", "END", "TURN", "MOVE", "LIVE"]
VERBS = ["CALL", "KEEP", *REQUESTS, "SIGN"]
CODES = [18, 20, 41, 43, 44, 45, 46, 48, 50]


class SignTest(ExchangeCase):
    def setUp(self):
        self.make(longest=50)

    def sign_with(self, user, place, seq=1, **more):
        self.put(self.sign_text(user, seq, **more), place)

    def check_bindings(self, *bindings):
        self.assertEqual(self.exchange.places.bindings(self.now), list(bindings))
        self.assertEqual(self.exchange.events, [])
        self.assertIs(self.exchange.is_quiet(), True)

    def test_known_user(self):
        self.sign_with("bob", "q", stay=40)
        self.check(["q 20 SIGN s>x0n0 1 stay 40"])
        self.check_bindings(("bob", "q", 40))
        self.now = 39
        self.check_bindings(("bob", "q", 40))
        self.now = 40
        self.check_bindings()

    def test_stay_is_at_most_the_longest_one(self):
        self.now = 7
        self.sign_with("bob", "q", stay=51)
        self.check(["q 20 SIGN s>x0n0 1 stay 50"])
        self.check_bindings(("bob", "q", 57))

    def test_stay_of_nothing_ends_the_binding(self):
        self.sign_with("bob", "q", 1, stay=40)
        self.sign_with("bob", "q", 2, stay=0)
        self.check(["q 20 SIGN s>x0n0 2 stay 0"])
        self.check_bindings()

    def test_whole_reply(self):
        text = self.sign_text("bob", 3, stay=40)
        sent = self.exchange.receive(text, "q", 0)
        reply = "reply 20 SIGN\ncall s3\nfrom bob@x s\nto bob@x x0n0\nseq 3\nway s3\nstay 40\n"
        self.assertEqual(sent, [("q", reply)])

    def test_parts_that_do_not_matter(self):
        self.sign_with("bob", "q", origin_tag="zz", call="c9", way="w9", target="eve@y", offer=ABLE, goal="cat@y")
        self.check(["q 20 SIGN zz>x0n0 1 stay 9"])
        self.check_bindings(("bob", "q", 9))

    def test_unknown_user(self):
        self.sign_with("eve", "q")
        self.check(["q 43 SIGN s>x0n0 1"])
        self.check_bindings()

    def test_other_host_or_no_stay(self):
        for more in [{"origin": "bob@y"}, {"stay": None}, {"origin": "eve@y"}, {"origin": "eve@x", "stay": None}]:
            self.sign_with("bob", "q", **more)
            self.check(["q 50 SIGN s>x0n0 1"])
        # None of these counts as a SIGN with its sequence number.
        self.check_bindings()
        self.sign_with("bob", "q")
        self.check_bindings(("bob", "q", 9))

    def test_unknown_places(self):
        for place in ["x", "z", "", "pq"]:
            self.sign_with("bob", place)
            self.check([])
        self.check_bindings()

    def test_old_sequence_numbers(self):
        self.sign_with("bob", "q", 5, stay=40)
        for seq in [5, 4, 0]:
            self.sign_with("bob", "q", seq, stay=7)
            self.check([f"q 20 SIGN s>x0n0 {seq} stay 7"])
        self.check_bindings(("bob", "q", 40))
        # They are counted for each user and place.
        self.sign_with("bob", "p", 1, stay=30)
        self.sign_with("ann", "q", 0, stay=20)
        self.check_bindings(("ann", "q", 20), ("bob", "p", 30), ("bob", "q", 40))

    def test_with_a_target_tag(self):
        for tag in ["x0n0", "x0n1", "zz"]:
            self.sign_with("bob", "q", target_tag=tag)
            self.check([f"q 41 SIGN s>{tag} 1"])
        self.check_bindings()

    def test_with_the_tag_of_a_leg(self):
        self.sign("bob", "q")
        self.dial("p", "bob")
        self.sign_with("bob", "q", 1, call="x0n2c", target_tag="x0n2")
        self.assertEqual(self.sent, ["q 50 SIGN s>x0n2 1"])


class CallTest(ExchangeCase):
    def setUp(self):
        self.make()

    def test_call_to_one_place(self):
        self.sign("bob", "q")
        self.now = 5
        self.dial("p", "bob")
        self.check(["q CALL ann@x>bob@x x0n2> 1 [40 both a,b]"], [("begin", 5, 1, "ann@x", "bob@x")])
        self.assertIs(self.exchange.is_quiet(), False)

    def test_whole_letters(self):
        self.sign("bob", "q", "r")
        call = self.call_letter("p", "bob", offer=(9, "take", ("wide",)))
        sent = self.exchange.receive(write(call), "p", 4)
        told = "request CALL\ncall x0n{0}c\nfrom ann@x x0n{0}\nto bob@x\nseq {1}\nway x0n{0}w1\noffer 9 take wide\n"
        self.assertEqual(sent, [("q", told.format(2, 1)), ("r", told.format(3, 2))])

    def test_several_places_in_the_order_of_the_stations(self):
        self.sign("bob", "t", "q", "p", "s")
        self.dial("r", "bob")
        calls = [f"{place} CALL ann@x>bob@x x0n{at + 2}> {at + 1} [40 both a,b]" for at, place in enumerate("pqst")]
        self.check(calls, [("begin", 0, 1, "ann@x", "bob@x")])

    def test_own_place_is_called_too(self):
        self.sign("ann", "p")
        self.dial("p", "ann")
        self.check(["p CALL ann@x>ann@x x0n2> 1 [40 both a,b]"], [("begin", 0, 1, "ann@x", "ann@x")])

    def test_places_in_this_tick(self):
        self.sign("bob", "q", stay=8)
        self.sign("bob", "r", stay=9)
        self.now = 8
        self.dial("p", "bob")
        self.assertEqual(self.sent, ["r CALL ann@x>bob@x x0n2> 1 [40 both a,b]"])
        self.now = 9
        self.dial("p", "bob")
        self.assertEqual(self.sent, ["p 43 CALL p2>x0n3 2"])

    def test_user_at_no_place(self):
        for goal in ["bob@x", "eve@x", "bob@y", "x@x"]:
            far = self.dial("p", "bob", target=goal)
            number = far.call.seq
            self.check([f"p 43 CALL p{number}>x0n{number} {number}"],
                       [("begin", 0, number, "ann@x", goal), ("end", 0, number, "refused")])

    def test_other_host(self):
        self.sign("bob", "q")
        self.dial("p", "bob", target="bob@y")
        self.check(["p 43 CALL p1>x0n1 1"], [("begin", 0, 1, "ann@x", "bob@y"), ("end", 0, 1, "refused")])

    def test_caller_may_be_anybody(self):
        self.sign("bob", "q")
        self.dial("p", "bob", origin="eve@y")
        self.check(["q CALL eve@y>bob@x x0n2> 1 [40 both a,b]"], [("begin", 0, 1, "eve@y", "bob@x")])

    def test_no_offer(self):
        self.sign("bob", "q")
        for number, goal in enumerate(["bob@x", "eve@x", "bob@y"], 1):
            self.dial("p", "bob", target=goal, offer=None)
            self.check([f"p 50 CALL p{number}>x0n{number} {number}"],
                       [("begin", 0, number, "ann@x", goal), ("end", 0, number, "refused")])

    def test_refusal_is_repeated_until_it_is_kept(self):
        for number, target in enumerate(["bob@x", "cat@x"], 1):
            far = self.dial("p", "bob", target=target)
            self.tick()
            told = f"p 43 CALL p{number}>x0n{number} {number}"
            self.assertEqual(self.ticks(2), [(self.now - 1, [told])])
            self.learn(far)
            self.assertEqual(self.put(far.keep(), "p"), [])
            self.assertEqual(self.ticks(70), [])
            self.assertIs(self.exchange.is_quiet(), True)

    def test_stay_and_goal_of_a_call_do_not_matter(self):
        self.sign("bob", "q")
        self.dial("p", "bob", stay=3, goal="cat@x")
        self.assertEqual(self.sent, ["q CALL ann@x>bob@x x0n2> 1 [40 both a,b]"])

    def test_most_calls(self):
        self.make(most_calls=2)
        self.sign("bob", "q")
        self.dial("p", "bob")
        self.dial("r", "bob")
        self.news()
        self.dial("s", "bob")
        self.check(["s 50 CALL s1>x0n5 1"], [("begin", 0, 3, "ann@x", "bob@x"), ("end", 0, 3, "refused")])
        # A call to nobody is also one too many.
        self.dial("s", "eve")
        self.check(["s 50 CALL s2>x0n6 2"], [("begin", 0, 4, "ann@x", "eve@x"), ("end", 0, 4, "refused")])
        self.exchange.hang_up(1, 0)
        self.dial("s", "bob")
        self.assertEqual(self.sent, ["q CALL ann@x>bob@x x0n8> 3 [40 both a,b]"])
        self.dial("s", "bob")
        self.assertEqual(self.sent, ["s 50 CALL s4>x0n9 4"])

    def test_most_calls_counts_answered_ones(self):
        self.make(most_calls=1)
        ann, _ = self.talking()
        self.dial("r", "bob")
        self.assertEqual(self.sent, ["r 50 CALL r1>x0n3 1"])
        self.ask(ann, "END")
        self.dial("r", "bob")
        self.assertEqual(self.sent, ["q CALL ann@x>bob@x x0n5> 2 [40 both a,b]"])

    def test_old_sequence_numbers(self):
        self.sign("bob", "q")
        self.dial("p", "bob", seq=5)
        self.news()
        for seq in [5, 4, 0]:
            self.dial("p", "bob", seq=seq)
            self.check([])
        # The numbers are counted for each place, and refused calls count, too.
        self.dial("r", "bob", seq=0)
        self.check(["q CALL ann@x>bob@x x0n4> 2 [40 both a,b]"], [("begin", 0, 2, "ann@x", "bob@x")])
        self.dial("p", "eve", seq=8)
        self.check(["p 43 CALL p5>x0n5 8"], [("begin", 0, 3, "ann@x", "eve@x"), ("end", 0, 3, "refused")])
        for seq in [6, 8]:
            self.dial("p", "bob", seq=seq)
            self.check([])
        self.dial("p", "bob", seq=9)
        self.check(["q CALL ann@x>bob@x x0n7> 3 [40 both a,b]"], [("begin", 0, 4, "ann@x", "bob@x")])

    def test_numbers_of_calls_in_the_leg_do_not_count(self):
        """Only CALLs that belong to no leg count for the numbers of new calls."""
        self.sign("bob", "q")
        first = self.dial("p", "bob", seq=5)
        again = Letter(**{**vars(first.call), "seq": 90, "way": "w9"})
        self.put(write(again), "p")
        self.assertEqual(self.sent, ["p 50 CALL p1>x0n1 90"])
        self.news()
        self.dial("p", "bob", seq=6)
        self.check(["q CALL ann@x>bob@x x0n4> 2 [40 both a,b]"], [("begin", 0, 2, "ann@x", "bob@x")])

    def test_same_call_again(self):
        self.sign("bob", "q")
        ann = self.dial("p", "bob")
        self.news()
        self.put(write(ann.call), "p")
        self.check([])
        self.ring(self.far("q"))
        self.news()
        self.put(write(ann.call), "p")
        self.check(["p 18 CALL p1>x0n1 1"])

    def test_same_call_again_when_it_is_forgotten(self):
        ann = self.dial("p", "bob")
        self.learn(ann)
        self.put(ann.keep(), "p")
        self.until(70)
        self.assertIs(self.exchange.is_quiet(), True)
        self.news()
        self.put(write(ann.call), "p")
        self.check([])

    def test_letter_like_a_call_from_another_place(self):
        self.sign("bob", "q")
        ann = self.dial("p", "bob")
        self.news()
        self.put(write(ann.call), "r")
        self.check(["q CALL ann@x>bob@x x0n4> 2 [40 both a,b]"], [("begin", 0, 2, "ann@x", "bob@x")])

    def test_other_origin_tag_or_call_is_another_call(self):
        self.sign("bob", "q")
        ann = self.dial("p", "bob")
        for number, more in enumerate([{"origin_tag": "other"}, {"call": "other"}], 2):
            self.news()
            self.put(write(Letter(**{**vars(ann.call), "seq": number, **more})), "p")
            self.assertEqual(self.news(), [("begin", 0, number, "ann@x", "bob@x")])

    def test_more_than_nine_legs(self):
        self.sign("bob", "q")
        for number in range(1, 8):
            self.dial("p", "bob")
        self.assertEqual(self.sent, ["q CALL ann@x>bob@x x0n14> 7 [40 both a,b]"])


class NothingTest(ExchangeCase):
    """Letters that belong to nothing, beside a call that rings: nothing happens to it."""

    def setUp(self):
        self.make()
        self.sign("bob", "q")
        self.ann = self.dial("p", "bob")
        self.bob = self.far("q")
        self.ring(self.bob)
        self.news()

    def tearDown(self):
        self.assertEqual(self.news(), [])
        self.accept(self.bob)
        self.assertEqual(self.sent, ["q KEEP x0n2>z1 1", "p 20 CALL p1>x0n1 1 [50 both b,a]"])

    def letter(self, verb, **more):
        parts = {"verb": verb, "call": "c1", "origin": "ann@x", "origin_tag": "t1", "target": "bob@x",
                 "target_tag": "", "seq": 90, "way": "w1", "offer": ABLE, "stay": 9, "goal": "cat@x"}
        return write(Letter(**{**parts, **more}))

    def test_requests_with_tags_that_do_not_exist(self):
        for verb in VERBS:
            for tag in ["x0n0", "x0n3", "x1n1", "n1", "z1", "X0N1"]:
                self.put(self.letter(verb, target_tag=tag), "p")
                self.check([] if verb == "KEEP" else [f"p 41 {verb} t1>{tag} 90"])

    def test_requests_without_a_tag(self):
        for verb in REQUESTS:
            self.put(self.letter(verb), "p")
            self.check([f"p 41 {verb} t1>x0n0 90"])
            if verb != "STOP":
                # Only a CALL and a STOP find their leg without its tag.
                self.put(self.letter(verb, call="cp1", origin_tag="p1"), "p")
                self.check([f"p 41 {verb} p1>x0n0 90"])
        self.put(self.letter("KEEP"), "p")
        self.check([])
        self.put(self.letter("KEEP", call="cp1", origin_tag="p1", seq=1, way="p1w1"), "p")
        self.check([])

    def test_whole_reply(self):
        sent = self.exchange.receive(self.letter("TURN", target_tag="z9"), "r", 0)
        self.assertEqual(sent, [("r", "reply 41 TURN\ncall c1\nfrom ann@x t1\nto bob@x z9\nseq 90\nway w1\n")])

    def test_requests_with_the_tag_of_another_leg(self):
        right = {"call": "cp1", "origin_tag": "p1", "target_tag": "x0n1"}
        for verb in VERBS:
            for place, more in [("q", {}), ("r", {}), ("p", {"call": "x0n2c"}), ("p", {"call": "cp2"}),
                                ("p", {"origin_tag": "p2"}), ("p", {"target_tag": "x0n2"}), ("q", {"call": "x0n2c"})]:
                parts = {**right, **more}
                self.put(self.letter(verb, **parts), place)
                told = f"{place} 41 {verb} {parts['origin_tag']}>{parts['target_tag']} 90"
                self.check([] if verb == "KEEP" else [told])

    def test_stops_of_nothing(self):
        for place, more in [("r", {"call": "cp1", "origin_tag": "p1"}), ("p", {"call": "cp1", "origin_tag": "p2"}),
                            ("p", {"call": "cp2", "origin_tag": "p1"}), ("q", {"call": "x0n2c", "origin_tag": "z1"}),
                            ("q", {"call": "x0n2c", "origin_tag": "x0n2"})]:
            self.put(self.letter("STOP", **more), place)
            tag = more["origin_tag"]
            self.check([f"{place} 41 STOP {tag}>x0n0 90"])

    def test_replies(self):
        call = self.bob.call
        for code in CODES:
            for verb in VERBS:
                self.put(self.letter(verb, code=code), "p")
                self.check([])
            for place, more in [("p", {}), ("r", {}), ("q", {"call": "cp1"}), ("q", {"origin_tag": "x0n1"}),
                                ("q", {"origin_tag": "x0n9"}), ("q", {"way": "x0n2w2"}), ("q", {"verb": "END"})]:
                parts = {**vars(call), "code": code, "target_tag": "z1", "offer": THEIRS, **more}
                self.put(write(Letter(**parts)), place)
                self.check([])

    def test_texts_that_are_no_letters(self):
        right = self.letter("END")
        for text in ["", "\n", " ", "x", "request\n", right[:-1], right + "\n", right + "x", " " + right, right[1:],
                     right.replace("seq 90", "seq 090"), right.replace("seq 90\n", ""), right * 2, right.upper(),
                     "request SIGN\ncall s1\nfrom ann@x s\nto ann@x\nseq 1\nway s1\nstay 10000\n"]:
            self.put(text, "p")
            self.check([])

    def test_other_places(self):
        for place in ["x", "z", "", "P", "p ", "pq"]:
            for verb in VERBS:
                self.put(self.letter(verb), place)
                self.check([])
                self.put(self.letter(verb, call="cp1", origin_tag="p1", target_tag="x0n1"), place)
                self.check([])
            self.put(self.bob.answer(20, THEIRS), place)
            self.check([])


class BelongingTest(ExchangeCase):
    """Letters that belong to a leg, also in parts that do not matter."""

    def setUp(self):
        self.make()
        self.sign("bob", "q")
        self.ann = self.dial("p", "bob")
        self.bob = self.far("q")
        self.news()

    def test_any_origin_tag_while_it_is_not_known(self):
        for tag in ["z1", "z2", "p1"]:
            self.put(self.bob.ask("LIVE", origin_tag=tag, target_tag="x0n2"), "q")
            self.check([f"q 50 LIVE {tag}>x0n2 {self.bob.seq}"])
        self.accept(self.bob)
        self.news()
        self.put(self.bob.ask("LIVE", origin_tag="z2", target_tag="x0n2"), "q")
        self.check(["q 41 LIVE z2>x0n2 4"])
        self.put(self.bob.ask("LIVE"), "q")
        self.check(["q 20 LIVE z1>x0n2 5"])

    def test_addresses_do_not_matter(self):
        self.put(self.ann.ask("LIVE", target_tag="x0n1", origin="eve@y", target="dan@z"), "p")
        self.check(["p 41 LIVE p1>x0n1 2"])
        self.put(self.ann.ask("CALL", target_tag="x0n1"), "p")
        self.check(["p 50 CALL p1>x0n1 3"])
        self.put(write(Letter(**{**vars(self.bob.call.reply(18, "z1")), "origin": "eve@y", "target": "dan@z"})), "q")
        self.check(["p 18 CALL p1>x0n1 1"], [("ring", 0, 1)])

    def test_reply_tells_its_tag(self):
        self.put(write(self.bob.call.reply(20, "other", THEIRS)), "q")
        self.assertEqual(self.sent[0], "q KEEP x0n2>other 1")
        self.put(self.bob.ask("END", origin_tag="other"), "q")
        self.assertEqual(self.sent[0], "q 20 END other>x0n2 1")

    def test_stop_without_a_tag(self):
        self.put(self.ann.ask("STOP"), "p")
        self.check(["p 45 CALL p1>x0n1 1", "p 20 STOP p1>x0n1 2", "q STOP x0n2> 2"], [("end", 0, 1, "stopped")])

    def test_stop_with_a_tag(self):
        self.put(self.ann.ask("STOP", target_tag="x0n1"), "p")
        self.check(["p 45 CALL p1>x0n1 1", "p 20 STOP p1>x0n1 2", "q STOP x0n2> 2"], [("end", 0, 1, "stopped")])

    def test_stop_before_the_call(self):
        """A STOP that overtakes its CALL stops nothing."""
        call = self.call_letter("r", "bob")
        stop = Letter(**{**vars(call), "verb": "STOP", "seq": 2, "way": "r1w2", "offer": None})
        self.put(write(stop), "r")
        self.check(["r 41 STOP r1>x0n0 2"])
        self.put(write(call), "r")
        self.check(["q CALL ann@x>bob@x x0n4> 2 [40 both a,b]"], [("begin", 0, 2, "ann@x", "bob@x")])


class MakingTest(ExchangeCase):
    def test_example(self):
        exchange = start(Config(host="x", users=["bob"], stations=["p", "q"], tariff=Tariff(1, [], 1)))
        sign = "request SIGN\ncall s1\nfrom bob@x s\nto bob@x\nseq 1\nway s1\nstay 90\n"
        reply = "reply 20 SIGN\ncall s1\nfrom bob@x s\nto bob@x x0n0\nseq 1\nway s1\nstay 90\n"
        self.assertEqual(exchange.receive(sign, "q", 0), [("q", reply)])
        call = "request CALL\ncall c1\nfrom ann@x t1\nto bob@x\nseq 1\nway t1w1\noffer 40 both a\n"
        told = "request CALL\ncall x0n2c\nfrom ann@x x0n2\nto bob@x\nseq 1\nway x0n2w1\noffer 40 both a\n"
        self.assertEqual(exchange.receive(call, "p", 1), [("q", told)])
        self.assertEqual(exchange.events, [("begin", 1, 1, "ann@x", "bob@x")])

    def test_start(self):
        config = make_config()
        exchange = start(config)
        self.assertIs(exchange.config, config)
        self.assertEqual([exchange.events, exchange.places.bindings(0), exchange.ledger.bills()], [[], [], []])
        self.assertEqual([exchange.ledger.pending(), exchange.ledger.journal.text], [[], ""])
        self.assertIs(exchange.ledger.tariff, config.tariff)
        self.assertIs(exchange.is_quiet(), True)

    def test_tags_of_another_life(self):
        self.use(restart(make_config(), "", 7, 12), 7)
        self.sign("bob", "q", "r")
        self.assertEqual(self.sent, ["r 20 SIGN s>x12n0 1 stay 500"])
        self.dial("p", "bob")
        self.check(["q CALL ann@x>bob@x x12n2> 120001 [40 both a,b]",
                    "r CALL ann@x>bob@x x12n3> 120002 [40 both a,b]"], [("begin", 7, 1, "ann@x", "bob@x")])
        self.assertEqual(self.requests["r", "CALL"].call, "x12n3c")
        self.put(self.sign_text("bob", 9, target_tag="t"), "q")
        self.put(write(Letter(**{**vars(read(self.sign_text("bob", 9))), "verb": "END"})), "q")
        self.assertEqual(self.sent, ["q 41 END s>x12n0 9"])

    def test_lists_changed_afterwards(self):
        config = make_config(users=["bob"], stations=["p", "q"])
        exchange = self.use(start(config), 0)
        config.users.clear()
        config.stations.clear()
        self.sign("bob", "q")
        self.dial("p", "bob")
        self.assertEqual(self.sent, ["q CALL ann@x>bob@x x0n2> 1 [40 both a,b]"])
        self.assertEqual(exchange.places.bindings(0), [("bob", "q", 500)])

    def test_results_stay_as_they_were(self):
        exchange = self.make()
        self.sign("bob", "q")
        text = write(self.call_letter("p", "bob"))
        sent = exchange.receive(text, "p", 0)
        kept = list(sent)
        sent.clear()
        reply = write(read(kept[0][1]).reply(20, "z1", THEIRS))
        answered = exchange.receive(reply, "q", 1)
        kept_answer = list(answered)
        answered.clear()
        self.assertEqual(exchange.receive(text, "p", 1), kept_answer[1:])
        self.assertEqual(exchange.receive(reply, "q", 1), kept_answer[:1])
        bills = exchange.ledger.bills()
        exchange.hang_up(1, 3)
        self.assertEqual(bills, [])

    def test_two_exchanges_share_nothing(self):
        one, two = start(make_config()), start(make_config())
        self.use(one, 0)
        self.sign("bob", "q")
        self.dial("p", "bob")
        self.assertEqual([two.events, two.places.bindings(0), two.is_quiet()], [[], [], True])
