"""Points 15.1 to 15.4 and 15.6: phones, letter by letter; letters that come, and what the user does."""

import random
import unittest

from exchange_help import ABLE, AGAIN, LIMIT, OTHERS, THEIRS, short

from trunkland.letters import CODES, VERBS, Letter, read, write
from trunkland.phones import Phone

HELD = (40, "send", ("a", "b"))
STRANGE = (9, "both", ("z",))
REQUESTS = ["STOP", "END", "TURN", "MOVE", "LIVE", "SIGN"]


class PhoneCase(unittest.TestCase):
    """A phone of ann at p with the offer ABLE, and an exchange x that calls for bob."""

    def make(self, **more):
        parts = {"place": "p", "user": "ann", "host": "x", "able": ABLE, **more}
        self.phone = Phone(**parts)
        self.now, self.told, self.seq = 0, 0, 0
        return self.phone

    def note(self, sent):
        self.assertIs(type(sent), list)
        self.letters = [read(text) for _, text in sent]
        self.sent = short(sent)
        return self.sent

    def put(self, letter, place="x"):
        return self.note(self.phone.receive(write(letter), place, self.now))

    def do(self, deed, *parts):
        return self.note(getattr(self.phone, deed)(*parts, self.now))

    def check(self, sent, state, *events):
        self.assertEqual(self.sent, sent)
        self.assertEqual(self.phone.state(), state)
        told, self.told = self.told, len(self.phone.events)
        self.assertEqual(self.phone.events[told:], list(events))

    def tick(self):
        sent = self.note(self.phone.tick(self.now))
        self.now += 1
        return sent

    def ticks(self, many):
        found = []
        for _ in range(many):
            if sent := self.tick():
                found.append((self.now - 1, sent))
        return found

    def until(self, now):
        return self.ticks(now - self.now)

    def call(self, **more):
        """Let a CALL come; its call, tags and way have the number of this CALL."""
        self.seq += 1
        tag = f"x0n{self.seq}"
        parts = {"verb": "CALL", "call": f"{tag}c", "origin": "bob@x", "origin_tag": tag, "target": "ann@x",
                 "target_tag": "", "seq": self.seq, "way": f"{tag}w1", "offer": THEIRS, **more}
        self.called = Letter(**parts)
        self.put(self.called)
        return self.called

    def ask(self, verb, tag="p1", call=None, **more):
        """Let the next request of the side that called come."""
        call = call or self.called
        self.seq += 1
        parts = {"verb": verb, "call": call.call, "origin": call.origin, "origin_tag": call.origin_tag,
                 "target": call.target, "target_tag": tag, "seq": self.seq, "way": f"{call.origin_tag}w{self.seq}"}
        self.asked = Letter(**{**parts, **more})
        return self.put(self.asked)

    def keep(self, tag="p1"):
        call = self.called
        return self.put(Letter(verb="KEEP", call=call.call, origin=call.origin, origin_tag=call.origin_tag,
                               target=call.target, target_tag=tag, seq=call.seq, way=call.way))

    def dial(self, user="bob"):
        self.do("dial", user)
        self.dialed = self.letters[0]

    def reply(self, code, offer=None, letter=None, tag="x0n1"):
        """Let a reply to the CALL of this phone come, or to another letter."""
        return self.put((letter or self.dialed).reply(code, tag, offer))

    def talk(self, dials=False, **more):
        """Let ann talk to bob, who called or is called."""
        self.make(**more)
        if dials:
            self.dial()
            self.reply(20, THEIRS)
            # What comes from the other side of this leg has its tags.
            self.called = Letter(**{**vars(self.dialed), "origin": "bob@x", "origin_tag": "x0n1", "target": "ann@x"})
        else:
            self.call()
            self.do("answer")
            self.keep()
        self.told = len(self.phone.events)


class FieldsTest(PhoneCase):
    def test_defaults(self):
        phone = self.make()
        self.assertEqual([phone.place, phone.user, phone.host, phone.able], ["p", "ann", "x", ABLE])
        self.assertEqual([phone.first, phone.check, phone.patience, phone.auto, phone.events], [2, 50, 100, None, []])
        self.assertEqual([phone.state(), phone.is_quiet()], ["idle", True])

    def test_fields(self):
        phone = self.make(first=3, check=4, patience=5, auto=0)
        self.assertEqual([phone.first, phone.check, phone.patience, phone.auto], [3, 4, 5, 0])

    def test_by_keyword_only(self):
        with self.assertRaises(TypeError):
            Phone("p", "ann", "x", ABLE)

    def test_two_phones_share_nothing(self):
        one = self.make()
        self.dial()
        two = self.make()
        self.assertEqual([two.events, two.state(), two.is_quiet()], [[], "idle", True])
        self.assertEqual([len(one.events), one.state()], [1, "calling"])


class IncomingTest(PhoneCase):
    def setUp(self):
        self.make()

    def test_call(self):
        self.now = 4
        self.call()
        self.check(["x 18 CALL x0n1>p1 1"], "offered", ("incoming", 4, "p1", "bob@x"))
        self.assertIs(self.phone.is_quiet(), False)

    def test_whole_reply(self):
        call = "request CALL\ncall x0n1c\nfrom bob@y x0n1\nto ann@x\nseq 1\nway x0n1w1\noffer 50 both b\n"
        reply = "reply 18 CALL\ncall x0n1c\nfrom bob@y x0n1\nto ann@x p1\nseq 1\nway x0n1w1\n"
        self.assertEqual(self.phone.receive(call, "x", 0), [("x", reply)])

    def test_same_call_again(self):
        call = self.call()
        self.check(["x 18 CALL x0n1>p1 1"], "offered", ("incoming", 0, "p1", "bob@x"))
        self.put(call)
        self.check(["x 18 CALL x0n1>p1 1"], "offered")
        self.do("answer")
        self.check(["x 20 CALL x0n1>p1 1 [40 both b,a]"], "talking", ("talk", 0, "p1"))
        self.put(call)
        self.check(["x 20 CALL x0n1>p1 1 [40 both b,a]"], "talking")
        self.keep()
        self.put(call)
        self.check([], "talking")

    def test_without_an_offer(self):
        self.call(offer=None)
        self.check(["x 50 CALL x0n1>p1 1"], "idle")
        self.assertEqual(self.ticks(2 * LIMIT), [(2 * now, ["x 50 CALL x0n1>p1 1"]) for now in AGAIN])
        self.assertIs(self.phone.is_quiet(), False)
        self.tick()
        self.assertIs(self.phone.is_quiet(), True)
        self.check([], "idle")

    def test_formats_that_are_not_common(self):
        self.call(offer=STRANGE)
        self.check(["x 18 CALL x0n1>p1 1"], "offered", ("incoming", 0, "p1", "bob@x"))
        self.now = 3
        self.do("answer")
        self.check(["x 46 CALL x0n1>p1 1"], "idle", ("end", 3, "p1", "refused", 46))

    def test_while_a_call_is_seen(self):
        self.call()
        self.told = 1
        for number, offer in [(2, THEIRS), (3, None), (4, STRANGE)]:
            self.call(offer=offer)
            self.check([f"x 44 CALL x0n{number}>p{number} {number}"], "offered")
        self.do("answer")
        self.call()
        self.assertEqual(self.sent, ["x 44 CALL x0n5>p5 5"])
        self.do("hang_up")
        self.call()
        self.assertEqual(self.sent, ["x 18 CALL x0n6>p6 6"])

    def test_while_the_user_dials(self):
        self.dial()
        self.told = 1
        self.call()
        self.check(["x 44 CALL x0n1>p2 1"], "calling")
        self.reply(18)
        self.told = 2
        self.call()
        self.check(["x 44 CALL x0n2>p3 2"], "ringing")

    def test_refused_call_is_kept(self):
        self.call(offer=None)
        self.keep()
        self.check([], "idle")
        self.assertEqual(self.ticks(2 * LIMIT), [])
        self.tick()
        self.assertIs(self.phone.is_quiet(), True)

    def test_old_calls(self):
        self.call(seq=5)
        self.do("hang_up")
        self.told = 2
        for seq in [5, 4, 0]:
            self.call(seq=seq)
            self.check([], "idle")
        # Calls that were refused count, too, and those that are ignored have no tags.
        self.call(seq=7, offer=None)
        self.check(["x 50 CALL x0n5>p2 7"], "idle")
        self.call(seq=6)
        self.check([], "idle")
        self.call(seq=8)
        self.check(["x 18 CALL x0n7>p3 8"], "offered", ("incoming", 0, "p3", "bob@x"))

    def test_call_with_number_zero(self):
        self.call(seq=0)
        self.check(["x 18 CALL x0n1>p1 0"], "offered", ("incoming", 0, "p1", "bob@x"))

    def test_call_with_a_target_tag(self):
        for tag in ["p1", "p0", "z"]:
            self.call(target_tag=tag)
            self.check([f"x 41 CALL x0n{self.seq}>{tag} {self.seq}"], "idle")
        self.call(seq=1)
        self.check(["x 18 CALL x0n4>p1 1"], "offered", ("incoming", 0, "p1", "bob@x"))

    def test_call_in_the_leg(self):
        self.call()
        self.told = 1
        self.ask("CALL", target_tag="")
        self.check(["x 50 CALL x0n1>p1 2"], "offered")
        self.ask("CALL")
        self.check(["x 50 CALL x0n1>p1 3"], "offered")
        # Only new calls count for the numbers of new calls.
        self.do("hang_up")
        self.told = 2
        self.call(seq=2)
        self.check(["x 18 CALL x0n4>p2 2"], "offered", ("incoming", 0, "p2", "bob@x"))

    def test_call_to_another_user(self):
        """The phone speaks for its own user only, whoever was called."""
        self.call(target="eve@y")
        self.check(["x 18 CALL x0n1>p1 1"], "offered", ("incoming", 0, "p1", "bob@x"))
        self.do("answer")
        self.assertEqual(self.letters[0].target, "eve@y")
        self.do("hang_up")
        end = self.letters[0]
        self.assertEqual(end.parts(), ("END", None, "x0n1c", "ann@x", "p1", "bob@x", "x0n1", 1, "p1w1", None, None, None))

    def test_stop(self):
        for tag in ["p1", ""]:
            self.make()
            self.call()
            self.told = 1
            self.now = 2
            self.ask("STOP", tag)
            self.check(["x 45 CALL x0n1>p1 1", "x 20 STOP x0n1>p1 2"], "idle", ("end", 2, "p1", "stopped", 45))
            self.put(self.asked)
            self.check(["x 20 STOP x0n1>p1 2"], "idle")

    def test_stop_of_what_is_not_seen(self):
        self.call()
        self.call()
        self.told = 1
        self.ask("STOP", "p2")
        self.check(["x 41 STOP x0n2>p2 3"], "offered")
        self.ask("STOP", "")
        self.check(["x 41 STOP x0n2>p2 4"], "offered")

    def test_stop_of_an_answered_call(self):
        self.call()
        self.do("answer")
        self.told = 2
        self.ask("STOP", "")
        self.check(["x 20 STOP x0n1>p1 2"], "talking")

    def test_other_requests_before_the_answer(self):
        self.call()
        self.told = 1
        for verb in ["END", "TURN", "MOVE", "LIVE"]:
            self.ask(verb)
            self.check([f"x 41 {verb} x0n1>p1 {self.seq}"], "offered")
        self.ask("SIGN")
        self.check(["x 50 SIGN x0n1>p1 6"], "offered")


class NothingTest(PhoneCase):
    """Letters that belong to nothing, beside a call that is offered."""

    def setUp(self):
        self.make()
        self.call()
        self.told = 1

    def letter(self, verb, **more):
        parts = {"verb": verb, "call": "c1", "origin": "bob@x", "origin_tag": "t1", "target": "ann@x",
                 "target_tag": "", "seq": 90, "way": "w1", "offer": THEIRS, "stay": 9, "goal": "cat@x"}
        return Letter(**{**parts, **more})

    def test_requests_without_a_tag(self):
        for verb in REQUESTS:
            self.put(self.letter(verb))
            self.check([f"x 41 {verb} t1>p0 90"], "offered")
            if verb != "STOP":
                self.put(self.letter(verb, call="x0n1c", origin_tag="x0n1"))
                self.check([f"x 41 {verb} x0n1>p0 90"], "offered")

    def test_requests_with_tags(self):
        for verb in [*REQUESTS, "CALL"]:
            for more in [{"target_tag": "p2"}, {"target_tag": "p0"}, {"target_tag": "p1"},
                         {"target_tag": "p1", "call": "x0n1c"}, {"target_tag": "p1", "origin_tag": "x0n1"},
                         {"target_tag": "p2", "call": "x0n1c", "origin_tag": "x0n1"}]:
                letter = self.letter(verb, **more)
                self.put(letter)
                self.check([f"x 41 {verb} {letter.origin_tag}>{letter.target_tag} 90"], "offered")

    def test_whole_reply(self):
        sent = self.phone.receive(write(self.letter("TURN")), "x", 0)
        self.assertEqual(sent, [("x", "reply 41 TURN\ncall c1\nfrom bob@x t1\nto ann@x p0\nseq 90\nway w1\n")])

    def test_keeps_and_replies(self):
        for tag in ["", "p0", "p1", "p2"]:
            self.put(self.letter("KEEP", target_tag=tag))
            self.check([], "offered")
        for verb in VERBS:
            for code in CODES:
                for origin_tag in ["t1", "p1", "s", "x0n1"]:
                    self.put(self.letter(verb, code=code, origin_tag=origin_tag, way="s1"))
                    self.check([], "offered")

    def test_letters_from_elsewhere(self):
        for place in ["p", "q", "", "y", "X"]:
            for verb in VERBS:
                self.put(self.letter(verb), place)
                self.check([], "offered")
                self.put(self.letter(verb, call="x0n1c", origin_tag="x0n1", target_tag="p1"), place)
                self.check([], "offered")
            self.put(self.called, place)
            self.check([], "offered")

    def test_replies_from_elsewhere(self):
        self.make()
        self.dial()
        self.told = 1
        self.put(self.dialed.reply(20, "x0n1", THEIRS), "q")
        self.check([], "calling")

    def test_replies_of_another_call(self):
        self.make()
        self.dial()
        self.told = 1
        for more in [{"call": "p2c"}, {"origin_tag": "p2"}, {"way": "p1w2"}, {"verb": "END"}]:
            self.put(Letter(**{**vars(self.dialed.reply(20, "x0n1", THEIRS)), **more}))
            self.check([], "calling")

    def test_texts_that_are_no_letters(self):
        right = write(self.letter("STOP", call="x0n1c", origin_tag="x0n1", target_tag="p1"))
        for text in ["", "\n", "x", right[:-1], right + "\n", right.replace("seq 90", "seq 090"), right.lower(), right[1:]]:
            self.note(self.phone.receive(text, "x", 0))
            self.check([], "offered")


class DialTest(PhoneCase):
    def setUp(self):
        self.make()

    def test_dial(self):
        self.now = 3
        self.dial()
        self.check(["x CALL ann@x>bob@x p1> 1 [40 both a,b]"], "calling", ("dial", 3, "p1", "bob@x"))
        self.assertIs(self.phone.is_quiet(), False)

    def test_whole_letter(self):
        sent = self.phone.dial("cat2", 0)
        call = "request CALL\ncall p1c\nfrom ann@x p1\nto cat2@x\nseq 1\nway p1w1\noffer 40 both a,b\n"
        self.assertEqual(sent, [("x", call)])

    def test_ringing_and_talking(self):
        self.dial()
        self.told = 1
        self.now = 2
        self.reply(18)
        self.check([], "ringing", ("rang", 2, "p1"))
        self.reply(18)
        self.check([], "ringing")
        self.now = 5
        self.reply(20, THEIRS)
        self.check(["x KEEP p1>x0n1 1"], "talking", ("talk", 5, "p1"))
        self.reply(20, THEIRS)
        self.check(["x KEEP p1>x0n1 1"], "talking")

    def test_answer_without_an_offer(self):
        self.dial()
        self.told = 1
        self.reply(20)
        self.check(["x KEEP p1>x0n1 1"], "talking", ("talk", 0, "p1"))

    def test_refused(self):
        for code in [41, 43, 44, 45, 46, 48, 50]:
            for rings in [False, True]:
                self.make()
                self.dial()
                if rings:
                    self.reply(18)
                self.told = len(self.phone.events)
                self.reply(code)
                self.check(["x KEEP p1>x0n1 1"], "idle", ("end", 0, "p1", "failed", code))
                self.reply(18)
                self.check([], "idle")

    def test_letters_without_a_tag_do_not_find_a_call_that_was_dialed(self):
        self.dial()
        self.reply(20, THEIRS)
        self.told = 2
        self.called = Letter(**{**vars(self.dialed), "origin": "bob@x", "origin_tag": "x0n1", "target": "ann@x"})
        self.ask("STOP", "")
        self.check(["x 41 STOP x0n1>p0 1"], "talking")
        self.ask("CALL", "", offer=THEIRS)
        self.check(["x 44 CALL x0n1>p2 2"], "talking")

    def test_next_calls(self):
        """The CALLs have the numbers 1, 2, 3, and the tags those of the legs."""
        self.dial()
        self.do("hang_up")
        self.call()
        self.do("hang_up")
        self.dial("cat")
        self.assertEqual(self.sent, ["x CALL ann@x>cat@x p3> 2 [40 both a,b]"])
        self.assertEqual([self.dialed.call, self.dialed.way], ["p3c", "p3w1"])
        self.do("hang_up")
        self.assertEqual(self.sent, ["x STOP p3> 3"])
        self.dial("cat")
        self.assertEqual(self.sent, ["x CALL ann@x>cat@x p4> 3 [40 both a,b]"])

    def test_dialing_while_a_call_is_seen(self):
        self.dial()
        self.told = 1
        self.do("dial", "cat")
        self.check([], "calling")
        self.reply(20, THEIRS)
        self.told = 2
        self.do("dial", "cat")
        self.check([], "talking")
        self.make()
        self.call()
        self.told = 1
        self.do("dial", "cat")
        self.check([], "offered")

    def test_nobody_replies(self):
        self.dial()
        told = [(2 * now, ["x CALL ann@x>bob@x p1> 1 [40 both a,b]"]) for now in AGAIN]
        self.assertEqual(self.until(2 * LIMIT), told)
        self.told = 1
        self.tick()
        self.check([], "idle", ("end", 2 * LIMIT, "p1", "failed", 48))
        self.assertIs(self.phone.is_quiet(), True)

    def test_the_other_side_ends(self):
        for code in [None, 18, 20]:
            self.make()
            self.dial()
            if code:
                self.reply(code, THEIRS)
            self.called = Letter(**{**vars(self.dialed), "origin_tag": "x0n1"})
            self.told = len(self.phone.events)
            self.ask("END")
            self.check(["x 20 END x0n1>p1 1"], "idle", ("end", 0, "p1", "ended", 20))


class UserTest(PhoneCase):
    """What the user does in each state."""

    def states(self):
        """Make a phone in each state, one after the other."""
        self.make()
        yield "idle"
        self.make()
        self.dial()
        yield "calling"
        self.make()
        self.dial()
        self.reply(18)
        yield "ringing"
        self.make()
        self.call()
        yield "offered"
        self.talk()
        yield "talking"
        self.talk(dials=True)
        yield "talking"
        self.talk()
        self.do("hang_up")
        yield "idle"

    def test_what_is_not_possible(self):
        possible = {"idle": ["dial"], "calling": ["hang_up"], "ringing": ["hang_up"], "offered": ["answer", "hang_up"],
                    "talking": ["hold", "resume", "move", "hang_up"]}
        for deed in ["dial", "answer", "hang_up", "hold", "resume", "move"]:
            for state in self.states():
                self.told = len(self.phone.events)
                parts = ["cat"] if deed in ("dial", "move") else []
                self.do(deed, *parts)
                if deed in possible[state]:
                    self.assertNotEqual(self.sent, [], (deed, state))
                else:
                    self.check([], state)

    def test_hanging_up(self):
        for code in [None, 18]:
            self.make()
            self.dial()
            if code:
                self.reply(code)
            self.told = len(self.phone.events)
            self.do("hang_up")
            self.check(["x STOP p1> 2"], "idle", ("end", 0, "p1", "hung", 45))
        self.make()
        self.call()
        self.told = 1
        self.do("hang_up")
        self.check(["x 44 CALL x0n1>p1 1"], "idle", ("end", 0, "p1", "refused", 44))
        self.talk()
        self.now = 7
        self.do("hang_up")
        self.check(["x END p1>x0n1 1"], "idle", ("end", 7, "p1", "hung", 20))
        self.talk(dials=True)
        self.do("hang_up")
        self.check(["x END p1>x0n1 2"], "idle", ("end", 0, "p1", "hung", 20))

    def test_answer_that_comes_behind_the_stop(self):
        self.make()
        self.dial()
        self.do("hang_up")
        self.told = 2
        self.reply(20, THEIRS)
        self.check(["x KEEP p1>x0n1 1", "x END p1>x0n1 3"], "idle")

    def test_answering(self):
        for offer, answer in [(THEIRS, "40 both b,a"), (OTHERS, "40 both a"), ((1, "send", ("b",)), "40 take b"),
                              ((1, "none", ("c", "b")), "40 none b")]:
            self.make()
            self.call(offer=offer)
            self.told = 1
            self.now = 6
            self.do("answer")
            self.check([f"x 20 CALL x0n1>p1 1 [{answer}]"], "talking", ("talk", 6, "p1"))

    def test_answer_is_repeated_and_given_up(self):
        self.make(check=1000)
        self.call()
        self.do("answer")
        told = [(2 * now, ["x 20 CALL x0n1>p1 1 [40 both b,a]"]) for now in AGAIN]
        self.assertEqual(self.until(2 * LIMIT), told)
        self.told = 2
        self.tick()
        self.check(["x END p1>x0n1 1"], "idle", ("end", 2 * LIMIT, "p1", "lost", 48))

    def test_holding_and_resuming(self):
        for dials, seq in [(False, 1), (True, 2)]:
            self.talk(dials)
            self.do("hold")
            self.check([f"x TURN p1>x0n1 {seq} [40 send a,b]"], "talking")
            turn = self.letters[0]
            self.do("resume")
            self.check([], "talking")
            self.reply(20, THEIRS, turn)
            self.check([f"x TURN p1>x0n1 {seq + 1} [40 both a,b]"], "talking")

    def test_whole_turn(self):
        self.talk()
        turn = "request TURN\ncall x0n1c\nfrom ann@x p1\nto bob@x x0n1\nseq 1\nway p1w1\noffer 40 send a,b\n"
        self.assertEqual(self.phone.hold(0), [("x", turn)])

    def test_holding_before_the_answer_changes_nothing(self):
        self.make()
        self.dial()
        self.do("hold")
        self.reply(18)
        self.do("hold")
        self.reply(20, THEIRS)
        self.called = Letter(**{**vars(self.dialed), "origin_tag": "x0n1"})
        self.ask("TURN", offer=THEIRS)
        self.assertEqual(self.sent, ["x 20 TURN x0n1>p1 1 [40 both b,a]"])

    def test_held_offers(self):
        for mode, held in [("both", "send"), ("send", "send"), ("take", "none"), ("none", "none")]:
            self.talk(able=(40, mode, ("a",)))
            self.do("hold")
            self.check([f"x TURN p1>x0n1 1 [40 {held} a]"], "talking")

    def test_moving(self):
        self.talk()
        self.do("move", "cat")
        self.check(["x MOVE p1>x0n1 1 goal cat@x"], "talking")
        self.reply(20, letter=self.letters[0])
        self.check([], "talking")
        move = "request MOVE\ncall x0n1c\nfrom ann@x p1\nto bob@x x0n1\nseq 2\nway p1w2\ngoal dan@x\n"
        self.assertEqual(self.phone.move("dan", 0), [("x", move)])

    def test_replies_to_turns_and_moves_are_not_told(self):
        for code in [20, 43, 46, 50]:
            for deed, parts in [("hold", []), ("move", ["cat"])]:
                self.talk()
                self.do(deed, *parts)
                self.reply(code, THEIRS if code == 20 else None, self.letters[0])
                self.check([], "talking")

    def test_call_that_is_lost(self):
        for deed, parts in [("hold", []), ("move", ["cat"])]:
            self.talk()
            self.do(deed, *parts)
            self.now = 3
            self.reply(41, letter=self.letters[0])
            self.check([], "idle", ("end", 3, "p1", "lost", 41))


class TalkingTest(PhoneCase):
    """What the other side of a call says."""

    def test_turns(self):
        self.talk()
        self.now = 5
        self.ask("TURN", offer=(51, "send", ("a", "b")))
        self.check(["x 20 TURN x0n1>p1 2 [40 take a,b]"], "talking", ("turned", 5, "p1", "send"))
        self.put(self.asked)
        self.check(["x 20 TURN x0n1>p1 2 [40 take a,b]"], "talking")
        self.ask("TURN", offer=STRANGE)
        self.check(["x 46 TURN x0n1>p1 3"], "talking")
        self.ask("TURN")
        self.check(["x 50 TURN x0n1>p1 4"], "talking")

    def test_what_the_leg_can_do_is_the_answer(self):
        self.make()
        self.call(offer=(50, "send", ("b",)))
        self.do("answer")
        self.told = 2
        self.ask("TURN", offer=(51, "both", ("a", "b")))
        self.check(["x 20 TURN x0n1>p1 2 [40 take b]"], "talking", ("turned", 0, "p1", "both"))

    def test_what_the_leg_can_do_when_it_dialed(self):
        self.make()
        self.dial()
        self.reply(20, (50, "take", ("b",)))
        self.called = Letter(**{**vars(self.dialed), "origin_tag": "x0n1"})
        self.told = 2
        self.ask("TURN", offer=(51, "both", ("a", "c", "b")))
        self.check(["x 20 TURN x0n1>p1 1 [40 both a,b]"], "talking", ("turned", 0, "p1", "both"))

    def test_what_the_leg_can_do_while_it_holds(self):
        self.make()
        self.call(offer=(50, "both", ("b",)))
        self.do("answer")
        self.do("hold")
        self.ask("TURN", offer=THEIRS)
        self.assertEqual(self.sent, ["x 20 TURN x0n1>p1 2 [40 send b,a]"])
        self.do("resume")
        self.ask("TURN", offer=THEIRS)
        self.assertEqual(self.sent, ["x 20 TURN x0n1>p1 3 [40 both b,a]"])

    def test_moves(self):
        self.talk()
        self.ask("MOVE", goal="cat@x")
        self.check(["x 20 MOVE x0n1>p1 2"], "talking")

    def test_end(self):
        for dials in [False, True]:
            self.talk(dials)
            self.now = 9
            self.ask("END")
            self.check([f"x 20 END x0n1>p1 {self.seq}"], "idle", ("end", 9, "p1", "ended", 20))
            self.put(self.asked)
            self.check([f"x 20 END x0n1>p1 {self.seq}"], "idle")
            self.ask("LIVE")
            self.check([f"x 41 LIVE x0n1>p1 {self.seq}"], "idle")

    def test_is_the_call_still_there(self):
        self.talk(check=10)
        self.assertEqual(self.until(10), [])
        self.assertEqual(self.tick(), ["x LIVE p1>x0n1 1"])
        self.reply(20, letter=self.letters[0])
        self.assertEqual(self.until(21), [])
        self.assertEqual(self.tick(), ["x LIVE p1>x0n1 2"])
        self.told = 2
        self.reply(41, letter=self.letters[0])
        self.check([], "idle", ("end", 22, "p1", "lost", 41))

    def test_nobody_is_there(self):
        self.talk(check=10, first=1)
        self.until(10 + LIMIT)
        self.tick()
        self.check(["x END p1>x0n1 2"], "idle", ("end", 10 + LIMIT, "p1", "lost", 48))
        self.until(10 + 2 * LIMIT)
        self.assertIs(self.phone.is_quiet(), False)
        self.tick()
        self.assertIs(self.phone.is_quiet(), True)


class ByItselfTest(PhoneCase):
    """Point 15.3: what the phone does by itself."""

    def offer(self, **more):
        self.make(**more)
        self.until(3)
        self.call()
        self.told = 1

    def test_auto(self):
        for auto in [0, 1, 7]:
            self.offer(auto=auto)
            self.assertEqual(self.until(3 + auto), [])
            self.tick()
            self.check(["x 20 CALL x0n1>p1 1 [40 both b,a]"], "talking", ("talk", 3 + auto, "p1"))

    def test_auto_without_a_common_format(self):
        self.make(auto=2)
        self.call(offer=STRANGE)
        self.told = 1
        self.until(2)
        self.tick()
        self.check(["x 46 CALL x0n1>p1 1"], "idle", ("end", 2, "p1", "refused", 46))

    def test_auto_and_patience_in_one_tick(self):
        self.offer(auto=10, patience=10)
        self.until(13)
        self.tick()
        self.check(["x 20 CALL x0n1>p1 1 [40 both b,a]"], "talking", ("talk", 13, "p1"))

    def test_patience_before_auto(self):
        self.offer(auto=10, patience=9)
        self.until(12)
        self.tick()
        self.check(["x 48 CALL x0n1>p1 1"], "idle", ("end", 12, "p1", "refused", 48))
        self.until(40)
        self.check(self.sent, "idle")

    def test_nobody_answers(self):
        self.offer(patience=10)
        self.assertEqual(self.until(13), [])
        self.tick()
        self.check(["x 48 CALL x0n1>p1 1"], "idle", ("end", 13, "p1", "refused", 48))

    def test_auto_only_for_calls_that_come(self):
        self.make(auto=0)
        self.dial()
        self.reply(18)
        self.assertEqual(self.until(50), [])
        self.assertEqual(self.phone.state(), "ringing")

    def test_patience_of_a_dialing_user(self):
        for code in [None, 18]:
            self.make(patience=10, first=20)
            self.until(3)
            self.dial()
            if code:
                self.reply(code)
            self.told = len(self.phone.events)
            self.assertEqual(self.until(13), [])
            self.tick()
            self.check(["x STOP p1> 2"], "idle", ("end", 13, "p1", "hung", 45))

    def test_legs_come_before_patience(self):
        self.make(patience=7, first=1)
        self.dial()
        self.until(7)
        self.assertEqual(self.tick(), ["x CALL ann@x>bob@x p1> 1 [40 both a,b]", "x STOP p1> 2"])

    def test_talking_users_are_left_alone(self):
        for dials in [False, True]:
            self.talk(dials, patience=10, check=1000)
            self.assertEqual(self.until(50), [])
            self.assertEqual(self.phone.state(), "talking")

    def test_next_call_has_its_own_patience(self):
        self.make(patience=10)
        self.call()
        self.until(5)
        self.do("hang_up")
        self.keep()
        self.call()
        self.told = len(self.phone.events)
        self.assertEqual(self.until(15), [])
        self.tick()
        self.check(["x 48 CALL x0n2>p2 2"], "idle", ("end", 15, "p2", "refused", 48))

    def test_patience_that_ends_with_the_call(self):
        """In the tick in which the CALL is given up, nothing is left to be hung up."""
        self.make(patience=LIMIT, first=1)
        self.dial()
        self.until(LIMIT)
        self.told = 1
        self.tick()
        self.check([], "idle", ("end", LIMIT, "p1", "failed", 48))


class OrderTest(PhoneCase):
    def test_order_of_a_tick(self):
        """SIGNs come first, then the legs in the order of their tags' numbers, then what the phone does by itself."""
        self.make(first=2, auto=2)
        for _ in range(11):
            self.dial()
            self.reply(44)
            self.do("dial", "cat")
            self.reply(44, letter=self.letters[0])
        self.dial()
        self.do("hang_up")
        self.do("sign", 9)
        self.do("sign", 8)
        self.call(offer=None)
        self.call()
        self.until(2)
        self.assertEqual(self.tick(), [
            "x SIGN s> 1 stay 9", "x SIGN s> 2 stay 8", "x STOP p23> 24", "x 50 CALL x0n1>p24 1",
            "x 20 CALL x0n2>p25 2 [40 both b,a]"])

    def test_more_than_nine_legs(self):
        self.make(first=1)
        for _ in range(12):
            self.call(offer=None)
        self.tick()
        self.assertEqual(self.tick(), [f"x 50 CALL x0n{number}>p{number} {number}" for number in range(1, 13)])

    def test_done_legs_are_forgotten(self):
        self.make(first=1)
        self.dial()
        self.reply(44)
        self.tick()
        self.until(LIMIT)
        self.assertIs(self.phone.is_quiet(), False)
        self.tick()
        self.assertIs(self.phone.is_quiet(), True)
        self.reply(44)
        self.check([], "idle", ("dial", 0, "p1", "bob@x"), ("end", 0, "p1", "failed", 44))


class AnyTest(PhoneCase):
    """Any letters and deeds: what the user is told stays in order."""

    def test_any(self):
        for seed in range(60):
            chance = random.Random(seed)
            self.make(first=1, patience=chance.choice([5, 40]), auto=chance.choice([None, 3]), check=9)
            got = []
            for _ in range(300):
                got = (got + self.step(chance, got))[-20:]
                self.check_events()

    def step(self, chance, got):
        kind = chance.choice(["tick", "tick", "deed", "deed", "call", "fit", "fit", "fit", "fit", "any"])
        if kind == "tick":
            self.tick()
        elif kind == "deed":
            deed = chance.choice(["dial", "answer", "answer", "hang_up", "hold", "resume", "move", "sign"])
            self.do(deed, *{"dial": ["bob"], "move": ["cat"], "sign": [9]}.get(deed, []))
        elif kind == "call":
            self.call(offer=chance.choice([THEIRS, STRANGE, None]))
        elif kind == "fit" and got:
            letter = chance.choice(got)
            if letter.code is None:
                self.reply(chance.choice([18, 20, 20, *CODES]), chance.choice([THEIRS, None]), letter)
            else:
                verb = chance.choice(["KEEP", "TURN", "LIVE", "MOVE", "STOP", "END"])
                self.put(Letter(**{**vars(letter), "verb": verb, "code": None, "offer": THEIRS,
                                   "seq": letter.seq + chance.choice([0, 0, 1, 5])}))
        else:
            self.put(Letter(verb=chance.choice(VERBS), code=chance.choice([None, *CODES]), call="p1c", origin="a@b",
                            origin_tag=chance.choice(["p1", "s"]), target="ann@x",
                            target_tag=chance.choice(["", "p1"]), seq=chance.randint(0, 9), way="p1w1"))
        return self.letters

    def check_events(self):
        seen, now, ended = None, 0, []
        for event in self.phone.events:
            self.assertGreaterEqual(event[1], now)
            now = event[1]
            if event[0] in ("dial", "incoming"):
                self.assertIsNone(seen)
                self.assertNotIn(event[2], ended)
                seen = event[2]
            else:
                self.assertEqual(event[2], seen)
            if event[0] == "end":
                ended.append(seen)
                seen = None
        self.assertEqual(self.phone.state() == "idle", seen is None)
