"""Points 0.5 to 0.7: phones and an exchange over a network that loses, doubles and delays letters in any way."""

import random
import unittest

from exchange_help import TARIFF, make_config

from trunkland.bounds import quiet_bound, settle_bound
from trunkland.calls import tell
from trunkland.exchange import restart
from trunkland.journal import read_journal
from trunkland.judging import judge
from trunkland.letters import read
from trunkland.network import World
from trunkland.phones import Phone

PHONES = [("p", "ann"), ("q", "bob"), ("r", "bob"), ("s", "cat"), ("t", "dan")]
GOALS = ["ann", "bob", "cat", "dan", "eve"]
ABLES = [("both", ("a", "b")), ("both", ("b", "a", "c")), ("send", ("a",)), ("take", ("b", "a")), ("both", ("z",))]
MARKS = "abx019 \n@,-"
# How a network treats its letters: the remainders by 4 of its fates.
GOOD, LATE, ROUGH, WORST = [0], [0, 2, 2], [0, 0, 0, 1, 2, 3], [0, 1, 1, 2, 3]


class Run:
    """A world of five phones, whose users do anything, and letters that are put in."""

    def __init__(self, seed, kinds, crashes=False):
        self.chance = random.Random(seed)
        pick = self.chance.choice
        self.slowest = pick([0, 1, 4, 12])
        fates = [4 * self.chance.randrange((self.slowest + 1) ** 2 + 1) + pick(kinds) for _ in range(97)]
        self.config = make_config(first=pick([1, 2, 3]), patience=pick([10, 30, 80]), check=pick([5, 20, 60]),
                                  longest=pick([50, 500]), most_calls=pick([1, 2, 8]), save=pick([1, 8, 64]))
        self.crashes = crashes
        self.lives = 0
        # The calls of earlier lives that were answered, with the tick of the end if it is known.
        self.answered = {}
        phones = [self.make_phone(place, user) for place, user in PHONES]
        self.world = World(self.config, phones, fates, self.slowest)

    def make_phone(self, place, user):
        pick = self.chance.choice
        patience = pick([15, 40])
        return Phone(place=place, user=user, host="x", able=(40, *pick(ABLES[:2] * 4 + ABLES)), first=pick([1, 2, 4]),
                     check=pick([7, 25]), patience=patience, auto=pick([None, None, 0, 6, patience]))

    def command(self):
        """Return something that a user or the operator does."""
        pick = self.chance.choice
        deed = pick(["dial"] * 6 + ["answer"] * 8 + ["hold", "resume", "move", "move", "hang up", "sign", "operator"])
        if deed == "operator":
            return (deed, self.chance.randint(0, 12))
        index = self.chance.randrange(len(PHONES))
        if deed in ("dial", "move"):
            return (deed, index, pick(GOALS))
        return (deed, index, pick([0, 90, 400])) if deed == "sign" else (deed, index)

    def step(self, often=0.15):
        commands = [self.command() for _ in PHONES if self.chance.random() < often]
        if self.world.now == 0:
            commands = [("sign", index, 400) for index in range(len(PHONES))]
        self.world.step(commands)
        if self.crashes and self.chance.random() < 0.01:
            self.crash()

    def crash(self):
        """Crash behind a tick, and start the exchange again."""
        old = self.world.exchange
        text = old.ledger.journal.after_crash(self.chance.choice([0, 0, 5, 20, 40, 999]))
        self.lives += 1
        self.note_answered(text)
        self.world.exchange = restart(self.config, text, self.world.now, self.lives)

    def note_answered(self, text):
        """Note the calls that were answered: each of them has a bill, which ends now if its end was not kept."""
        kept = [record.split(" ")[1] for record in read_journal(text) if record.startswith("close")]
        for number, caller, callee, _, _, answered, ended, _, _, _, _ in self.tell():
            if answered is not None:
                end = ended if ended is not None and str(number) in kept else self.world.now
                self.answered[number] = (number, caller, callee, answered, end, TARIFF.cost(end - answered))

    def tell(self):
        """Return the calls of this life, with the numbers that they have in it."""
        events = self.world.exchange.events
        first = min([event[2] for event in events], default=1) - 1
        calls, wrong = tell([(name, now, number - first, *parts) for name, now, number, *parts in events])
        assert wrong == [], [events[index] for index in wrong]
        return [(call[0] + first, *call[1:]) for call in calls]


class RoughCase(unittest.TestCase):
    def check_exchange(self, run):
        """Check the events against the call model, and that each call has the bill that it should have."""
        calls, ledger = run.tell(), run.world.exchange.ledger
        bills = dict(run.answered)
        for number, caller, callee, _, _, answered, ended, _, _, _, _ in calls:
            self.assertNotIn(number, bills)
            if answered is not None and ended is not None:
                bills[number] = (number, caller, callee, answered, ended, TARIFF.cost(ended - answered))
        self.assertEqual(ledger.bills(), [bills[number] for number in sorted(bills)])
        pending = [call[0] for call in calls if call[5] is not None and call[6] is None]
        self.assertEqual(ledger.pending(), pending)
        if run.lives == 0:
            self.assertEqual(judge(run.world.exchange.events, TARIFF, ledger.bills(), ledger.pending()), [])
        self.check_journal(ledger)

    def check_journal(self, ledger):
        """Check that the journal tells each bill, and that its synced part tells each beginning."""
        records = [record.split(" ") for record in read_journal(ledger.journal.text)]
        opened = sorted([int(record[1]) for record in records if record[0] == "open"])
        closed = sorted([int(record[1]) for record in records if record[0] == "close"])
        self.assertEqual(closed, [bill[0] for bill in ledger.bills()])
        self.assertEqual(opened, sorted([bill[0] for bill in ledger.bills()] + ledger.pending()))
        synced = [record.split(" ") for record in read_journal(ledger.journal.after_crash(0))]
        self.assertEqual(sorted([int(record[1]) for record in synced if record[0] == "open"]), opened)

    def check_phone(self, phone):
        """Check what the user has been told: one call after the other, each with at most one end."""
        seen, talks, tags = None, False, []
        for name, _, tag, *_ in phone.events:
            if name in ("dial", "incoming"):
                self.assertIsNone(seen)
                self.assertNotIn(tag, tags)
                seen, talks = tag, False
                tags.append(tag)
                continue
            self.assertEqual(tag, seen)
            self.assertFalse(talks if name in ("rang", "talk") else name == "turned" and not talks)
            talks = talks or name == "talk"
            seen = None if name == "end" else seen
        self.assertEqual(phone.state() == "idle", seen is None)
        ticks = [event[1] for event in phone.events]
        self.assertEqual(ticks, sorted(ticks))

    def check_all(self, run):
        self.check_exchange(run)
        for phone in run.world.phones:
            self.check_phone(phone)

    def settle(self, run):
        """Let every user hang up in every tick: all is over within the settle bound."""
        bound = settle_bound(run.config, run.world.phones, run.slowest)
        begun = run.world.now
        for _ in range(bound + 1):
            run.world.step([("hang up", index) for index in range(len(PHONES))])
        self.assertIs(run.world.is_quiet(), True)
        self.check_all(run)
        for phone in run.world.phones:
            self.assertEqual(phone.state(), "idle")
            names = [event[0] for event in phone.events]
            self.assertEqual(names.count("dial") + names.count("incoming"), names.count("end"))
            self.assertLessEqual(max([event[1] for event in phone.events], default=0), begun + bound)
        self.assertEqual(run.world.exchange.ledger.pending(), [])


class RoughTest(RoughCase):
    def test_any_users(self):
        seen = {}
        for seed in range(120):
            run = Run(seed, [GOOD, LATE, ROUGH, WORST][seed % 4])
            for now in range(run.chance.choice([60, 200, 300])):
                run.step()
                if now % 20 == 0:
                    self.check_all(run)
            self.check_all(run)
            self.settle(run)
            for event in run.world.exchange.events:
                name = event[3] if event[0] == "end" else event[0]
                seen[name] = seen.get(name, 0) + 1
        for name in ["begin", "ring", "answer", "turn", "move", "moved", "caller", "callee", "refused", "stopped",
                     "unanswered", "operator", "lost"]:
            self.assertGreater(seen.get(name, 0), 9, name)

    def test_crashes(self):
        lives = 0
        for seed in range(60):
            run = Run(seed, [GOOD, LATE, ROUGH][seed % 3], crashes=True)
            for now in range(250):
                run.step()
                if now % 10 == 0:
                    self.check_all(run)
            lives += run.lives
            self.settle(run)
        self.assertGreater(lives, 60)

    def test_crash_in_each_tick(self):
        """A call that is answered has one bill, in whichever tick the exchange crashes, and whatever is kept."""
        for kept in [0, 10, 30, 999]:
            for tick in range(4, 60):
                run = Run(3, GOOD)
                run.world.phones[1].auto = 5
                for now in range(80):
                    run.world.step({0: [("sign", 1, 400)], 3: [("dial", 0, "bob")], 40: [("hang up", 0)]}.get(now, []))
                    if now == tick:
                        run.chance.choice = lambda choices, many=kept: many
                        run.crash()
                self.check_all(run)
                self.settle(run)
                self.assertLessEqual(len(run.world.exchange.ledger.bills()), 1)

    def test_silence(self):
        """No letter arrives any more: the exchange is quiet within the quiet bound."""
        for seed in range(60):
            run = Run(seed, [GOOD, LATE, ROUGH, WORST][seed % 4], crashes=seed % 3 == 0)
            for _ in range(run.chance.choice([20, 60, 200])):
                run.step()
            exchange, now = run.world.exchange, run.world.now
            for tick in range(now, now + quiet_bound(run.config) + 1):
                exchange.tick(tick)
            self.assertIs(exchange.is_quiet(), True)
            self.assertEqual(exchange.ledger.pending(), [])
            self.check_exchange(run)

    def test_one_side_hangs_up(self):
        """Only one of two users who talk hangs up, or lets it ring: both are idle within the settle bound."""
        for seed in range(160):
            run = Run(seed, [GOOD, LATE, ROUGH, WORST][seed % 4])
            world, index = run.world, seed % 2
            world.phones[1].auto = run.chance.choice([None, 2])
            for now in range(run.chance.choice([4, 8, 30, 60])):
                world.step({0: [("sign", 1, 400)], 3: [("dial", 0, "bob")]}.get(now, []))
            world.step([("hang up", index)])
            hung = False
            for _ in range(settle_bound(run.config, world.phones, run.slowest)):
                state = world.phones[index].state()
                # The callee may learn of the call only when the user has hung up.
                hangs = index == 1 and state == "offered" and not hung
                world.step([("hang up", 1)] if hangs else [])
                hung = hung or hangs
            self.check_all(run)
            if world.phones[0].state() == "talking":
                # The callee was called once more, when the user had hung up already: nobody has ended this call.
                self.assertEqual(world.phones[1].state(), "talking")
                continue
            self.assertEqual([phone.state() for phone in world.phones[:2]], ["idle", "idle"])


class AnyTextTest(RoughCase):
    def test_any_text(self):
        """Texts that were sent before, also changed, are put in at any time and from any place."""
        for seed in range(40):
            run = Run(seed, [GOOD, ROUGH][seed % 2], crashes=seed % 3 == 0)
            texts = self.tap(run)
            for now in range(200):
                run.step()
                self.put_in(run, texts)
                if now % 20 == 0:
                    self.check_all(run)
            self.settle(run)

    def tap(self, run):
        """Return the list of the texts that phones get, which grows with every one."""
        texts = ["", "x\n"]
        for phone in run.world.phones:
            def receive(text, place, now, taking=phone.receive):
                texts.append(text)
                return taking(text, place, now)
            phone.receive = receive
        return texts

    def put_in(self, run, texts):
        chance, world = run.chance, run.world
        for _ in range(3):
            text = self.change(chance, chance.choice(texts[-40:]))
            place = chance.choice(["p", "q", "r", "s", "t", "x", "z", ""])
            # What the exchange and the phones send for it is lost.
            if chance.random() < 0.7:
                for to, reply in world.exchange.receive(text, place, world.now):
                    texts.append(reply)
            else:
                chance.choice(world.phones).receive(text, place, world.now)

    def change(self, chance, text):
        kind = chance.choice(["same", "mark", "word", "turn"])
        if kind == "mark":
            at = chance.randint(0, len(text))
            return text[:at] + chance.choice(["", *MARKS]) + text[at + chance.choice([0, 1]):]
        if kind == "word":
            words = text.split(" ")
            words[chance.randrange(len(words))] = chance.choice(["", "20 CALL\ncall", "x0n1", "p1", "bob@x", "0"])
            return " ".join(words)
        if kind == "turn" and text.startswith("request"):
            # The request becomes a reply to itself.
            return text.replace("request", f"reply {chance.choice([18, 20, 41, 44])}", 1)
        return text


class AgainTest(RoughCase):
    """Letters that are delivered once more change nothing."""

    def test_letters_again(self):
        for seed in range(60):
            kinds = [GOOD, LATE, ROUGH][seed % 3]
            plain, again = Run(seed, kinds), Run(seed, kinds)
            self.deliver_again(again)
            for _ in range(150):
                plain.step()
                again.step()
                self.assertEqual(self.state(plain), self.state(again))
            self.settle(again)

    def state(self, run):
        exchange = run.world.exchange
        return [exchange.events, exchange.ledger.bills(), exchange.ledger.pending(), exchange.ledger.journal.text,
                exchange.places.bindings(run.world.now), exchange.is_quiet(),
                [[phone.events, phone.state(), phone.is_quiet()] for phone in run.world.phones]]

    def deliver_again(self, run):
        """Let each station get letters that it took once more, at once or later; what it sends for them is lost."""
        chance = random.Random(7)
        for station in [run.world.exchange, *run.world.phones]:
            def receive(text, place, now, taking=station.receive, taken=[]):
                sent = taking(text, place, now)
                taken.append((text, place))
                if any(read(reply).code == 41 for _, reply in sent):
                    # This letter may mean something later, as a STOP that comes before its CALL.
                    taken.pop()
                for old in [(text, place), *chance.sample(taken, min(len(taken), 2))]:
                    self.check_replies(taking(*old, now))
                return sent
            station.receive = receive

    def check_replies(self, sent):
        for _, text in sent:
            letter = read(text)
            self.assertTrue(letter.code is not None or letter.verb == "KEEP")
