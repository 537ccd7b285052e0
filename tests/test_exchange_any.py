"""Points 0.5 and 0.6 for the exchange alone: any letters, the same letters again, and silence."""

import random
import unittest

from exchange_help import ABLE, OTHERS, STATIONS, TARIFF, THEIRS, USERS, make_config

from trunkland.bounds import quiet_bound
from trunkland.calls import tell
from trunkland.exchange import restart, start
from trunkland.judging import judge
from trunkland.ledger import recover
from trunkland.letters import CODES, VERBS, Letter, read, write

OFFERS = [ABLE, THEIRS, OTHERS, (9, "none", ("z",)), (8, "send", ("a",)), None]
ADDRESSES = ["ann@x", "bob@x", "cat@x", "dan@x", "eve@x", "bob@y"]
MARKS = "abx019 \n@,-"


class Run:
    """An exchange that gets any letters: some that fit what it sends, some of any parts, some that are changed."""

    def __init__(self, seed):
        self.chance = random.Random(seed)
        pick = self.chance.choice
        self.config = make_config(first=pick([1, 2]), patience=pick([5, 60, 200]), check=pick([4, 30]),
                                  most_calls=pick([1, 3, 8]), save=pick([1, 8]))
        self.exchange = start(self.config)
        self.now = 0
        self.seq = 0
        # What the exchange has sent, and what has been put in, each as a place and a letter or a text.
        self.got = []
        self.called = None
        self.put_in = []
        for user in USERS:
            for place in self.chance.sample(STATIONS, 2):
                self.put(write(self.sign(user)), place)

    def put(self, text, place):
        self.put_in.append((text, place))
        sent = self.exchange.receive(text, place, self.now)
        self.got += [(to, read(told)) for to, told in sent]
        del self.got[:-60]
        return sent

    def next_seq(self):
        self.seq += 1
        return self.seq

    def sign(self, user):
        seq = self.next_seq()
        return Letter(verb="SIGN", call=f"s{seq}", origin=f"{user}@x", origin_tag="s", target=f"{user}@x",
                      target_tag="", seq=seq, way=f"s{seq}", stay=self.chance.choice([0, 20, 300]))

    def new_call(self):
        seq = self.next_seq()
        return Letter(verb="CALL", call=f"c{seq}", origin="ann@x", origin_tag=f"t{seq}", target=self.any(ADDRESSES),
                      target_tag="", seq=seq, way=f"t{seq}w1", offer=self.any([ABLE, ABLE, OTHERS, None]))

    def any(self, choices):
        return self.chance.choice(choices)

    def fitting(self):
        """Return a letter that fits one of those that the exchange sent: a reply, a KEEP or another request."""
        place, letter = self.any(self.got)
        if letter.code is None and self.chance.random() < 0.7:
            code = self.any([18, 20, 20, 20, 20, self.any(CODES)])
            return place, letter.reply(code, f"z{letter.origin_tag}", self.any(OFFERS))
        own, tag, other, other_tag = letter.origin, letter.origin_tag, letter.target, letter.target_tag
        if letter.code is None:
            own, tag, other, other_tag = letter.target, f"z{letter.origin_tag}", letter.origin, letter.origin_tag
        parts = {"call": letter.call, "origin": own, "origin_tag": tag, "target": other, "target_tag": other_tag}
        if letter.code is not None and letter.verb == "CALL" and self.chance.random() < 0.6:
            return place, Letter(verb="KEEP", seq=letter.seq, way=letter.way, **parts)
        verb = self.any(["TURN", "MOVE", "LIVE", "TURN", "MOVE", "LIVE", "END", "STOP", "CALL", "SIGN"])
        if verb == "STOP" and self.chance.random() < 0.5:
            parts["target_tag"] = ""
        return place, Letter(verb=verb, seq=self.next_seq(), way=f"w{self.seq}", offer=self.any(OFFERS),
                             goal=self.any([*ADDRESSES, None]), **parts)

    def stop(self):
        """Return the STOP of the latest new CALL, and its place."""
        place, letter = self.called
        return place, Letter(**{**vars(letter), "verb": "STOP", "seq": self.next_seq(), "offer": None})

    def of_any_parts(self):
        tags = [*[f"x0n{number}" for number in range(6)], "t1", "zx0n2", "q"]
        return Letter(verb=self.any(VERBS), code=self.any([None, None, *CODES]), call=self.any(["c1", "c2", "x0n2c"]),
                      origin=self.any(ADDRESSES), origin_tag=self.any(tags), target=self.any(ADDRESSES),
                      target_tag=self.any(["", *tags]), seq=self.any([0, 1, self.seq]),
                      way=self.any(["w1", "x0n2w1", "t1w1"]), offer=self.any(OFFERS), stay=self.any([None, 0, 9]),
                      goal=self.any([None, *ADDRESSES]))

    def changed(self, text):
        """Return a text with one character or one word changed, left out or put in."""
        if self.chance.random() < 0.5:
            at = self.chance.randint(0, len(text))
            return text[:at] + self.any(["", *MARKS]) + text[at + self.any([0, 1, 1]):]
        words = text.split(" ")
        words[self.chance.randrange(len(words))] = self.any(["", "CALL", "20", "x0n1", "bob@x", "0", "ann@x t1\nto"])
        return " ".join(words)

    def step(self):
        """Do something: mostly let a letter come in or a tick pass."""
        kind = self.any(["fitting"] * 14 + ["call", "call", "stop", "sign", "any", "changed", "changed", "again", "again",
                                            "elsewhere", "operator"] + ["tick"] * 6)
        if kind == "tick":
            self.got += [(to, read(told)) for to, told in self.exchange.tick(self.now)]
            self.now += 1
        elif kind == "operator":
            if self.chance.random() < 0.1:
                self.exchange.hang_up(self.chance.randint(0, 9), self.now)
        elif kind == "fitting" and self.got:
            place, letter = self.fitting()
            self.put(write(letter), place)
        elif kind in ("again", "changed", "elsewhere"):
            text, place = self.any(self.put_in)
            if kind == "elsewhere":
                place = self.any([*STATIONS, "x", "z", ""])
            self.put(self.changed(text) if kind == "changed" else text, place)
        elif kind == "stop" and self.called:
            place, letter = self.stop()
            self.put(write(letter), place)
        elif kind == "call":
            self.called = self.any(STATIONS), self.new_call()
            self.put(write(self.called[1]), self.called[0])
        else:
            letter = self.of_any_parts() if kind == "any" else self.sign(self.any(USERS))
            self.put(write(letter), self.any(STATIONS))


class AnyTest(unittest.TestCase):
    def check_calls(self, exchange):
        """Check the events against the call model, and the bills against the calls."""
        calls, wrong = tell(exchange.events)
        self.assertEqual(wrong, [])
        bills, pending = exchange.ledger.bills(), exchange.ledger.pending()
        self.assertEqual(judge(exchange.events, TARIFF, bills, pending), [])
        answered = [call for call in calls if call[5] is not None]
        ended = [call for call in answered if call[6] is not None]
        self.assertEqual(bills, [(*call[:3], call[5], call[6], TARIFF.cost(call[6] - call[5])) for call in ended])
        self.assertEqual(pending, [call[0] for call in answered if call[6] is None])
        return calls

    def test_any_letters(self):
        seen = {}
        for seed in range(120):
            run = Run(seed)
            for _ in range(400):
                run.step()
                if run.chance.random() < 0.05:
                    self.check_calls(run.exchange)
            calls = self.check_calls(run.exchange)
            for event in run.exchange.events:
                name = event[0] if event[0] != "end" else event[3]
                seen[name] = seen.get(name, 0) + 1
            self.check_recovered(run, calls)
            self.check_silence(run)
            for call in self.check_calls(run.exchange):
                self.assertIsNotNone(call[6])
        for name in ["begin", "ring", "answer", "turn", "move", "moved", "caller", "callee", "refused", "stopped",
                     "unanswered", "operator", "lost"]:
            self.assertGreater(seen.get(name, 0), 9, name)

    def check_recovered(self, run, calls):
        ledger = recover(TARIFF, run.exchange.ledger.journal.after_crash(10 ** 9), run.now)
        self.assertEqual([bill[:4] for bill in ledger.bills()],
                         [(*call[:3], call[5]) for call in calls if call[5] is not None])
        ledger = recover(TARIFF, run.exchange.ledger.journal.after_crash(0), run.now)
        self.assertEqual([bill[0] for bill in ledger.bills()], [call[0] for call in calls if call[5] is not None])

    def check_silence(self, run):
        """When nothing comes any more, the exchange is quiet within the quiet bound."""
        for _ in range(quiet_bound(run.config) + 1):
            run.exchange.tick(run.now)
            run.now += 1
        self.assertIs(run.exchange.is_quiet(), True)
        self.assertEqual(run.exchange.ledger.pending(), [])

    def test_any_letters_behind_a_restart(self):
        for seed in range(20):
            run = Run(seed)
            for life in range(1, 4):
                for _ in range(150):
                    run.step()
                old = run.exchange.ledger
                text = old.journal.after_crash(run.chance.randint(0, 60))
                numbers = [bill[0] for bill in old.bills()] + old.pending()
                run.exchange = restart(run.config, text, run.now, life)
                self.assertEqual([bill[0] for bill in run.exchange.ledger.bills()], sorted(numbers))
            for _ in range(150):
                run.step()
            self.check_silence(run)

    def test_same_letter_at_once_again(self):
        """Every letter comes twice: what the second one brings is thrown away, and all goes on as if it had not."""
        for seed in range(60):
            once, twice = Run(seed), Run(seed)
            twice.put = lambda text, place, run=twice: self.put_twice(run, text, place)
            for _ in range(250):
                once.step()
                twice.step()
            self.assertEqual(once.exchange.events, twice.exchange.events)
            self.assertEqual(once.exchange.ledger.journal.text, twice.exchange.ledger.journal.text)
            self.assertEqual(once.exchange.places.bindings(once.now), twice.exchange.places.bindings(once.now))
            self.assertEqual([[to, letter.parts()] for to, letter in once.got],
                             [[to, letter.parts()] for to, letter in twice.got])

    def put_twice(self, run, text, place):
        sent = Run.put(run, text, place)
        for _, told in run.exchange.receive(text, place, run.now):
            letter = read(told)
            self.assertTrue(letter.verb == "KEEP" or letter.code is not None, told)
        return sent
