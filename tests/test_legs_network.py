"""Points 7.1 to 7.7: two legs that talk to each other over a network that loses, doubles and delays letters."""

import random
import unittest

from trunkland.legs import Leg
from trunkland.letters import read

OFFERS = [(1, "both", ("a", "b")), (2, "send", ("b",)), (3, "take", ("c", "a")), (4, "none", ("d",))]
CODES = [43, 44, 46, 48, 50]
ASKING = ["TURN", "MOVE", "LIVE"]


class Run:
    """Two legs, the letters between them, and what each leg has sent and reported."""

    def __init__(self, seed, worst):
        self.chance = random.Random(seed)
        self.first, self.check = self.chance.randint(1, 4), self.chance.choice([1, 5, 30])
        self.worst = worst
        self.now = self.chance.choice([0, 100])
        self.legs = [self.make("t1", "ann@x", "bob@x", "q"), self.make("r1", "bob@x", "ann@x", "p")]
        self.began = [True, False]
        self.events = [[], []]
        self.requests = [{}, {}]
        self.replied = [set(), set()]
        self.on_the_way = []
        self.send(0, self.legs[0].call_out(OFFERS[0], self.now))

    def make(self, tag, own, other, place):
        return Leg(tag=tag, call="c1", own=own, other=other, place=place, able=OFFERS[0], first=self.first,
                   check=self.check, seq=self.chance.choice([0, 10000]))

    def send(self, side, sent):
        for place, text in sent:
            assert place == "qp"[side]
            letter = read(text)
            if letter.code is None and letter.verb != "KEEP":
                self.check_asked(side, letter)
                self.requests[side].setdefault(letter.way, letter.parts())
                assert self.requests[side][letter.way] == letter.parts()
            for _ in range(self.chance.choice([1] if not self.worst else [0, 1, 1, 2])):
                late = self.chance.choice([0, 0, 1, self.chance.randint(0, self.worst)])
                self.on_the_way.append((self.now + 1 + late, 1 - side, text))
        self.events[side] += self.legs[side].take_events()

    def check_asked(self, side, letter):
        """Check that a new TURN, MOVE or LIVE is sent only when those before it have been replied to."""
        if letter.verb in ASKING and letter.way not in self.requests[side]:
            before = [way for way, parts in self.requests[side].items() if parts[0] in ASKING]
            assert all(way in self.replied[side] for way in before)

    def deliver(self, side, text):
        leg, letter = self.legs[side], read(text)
        if letter.code is not None and letter.code >= 20:
            self.replied[side].add(letter.way)
        if not self.began[side]:
            if letter.code is None and letter.verb == "CALL":
                self.began[side] = True
                leg.call_in(letter)
                self.send(side, leg.ring(self.now))
            return
        self.send(side, leg.receive(letter, "qp"[side], self.now))

    def act(self, side):
        """Let the user of a side do something, or try to."""
        leg, chance = self.legs[side], self.chance
        deed = chance.choice(["ring", "accept", "accept", "turn", "turn", "move", "move", "refuse", "hang up"])
        if deed in ("refuse", "hang up") and chance.random() < 0.9:
            return
        self.send(side, {
            "ring": lambda: leg.ring(self.now), "accept": lambda: leg.accept(chance.choice(OFFERS), self.now),
            "turn": lambda: leg.turn(chance.choice(OFFERS), self.now), "hang up": lambda: leg.hang_up(self.now),
            "move": lambda: leg.move("eve@x", self.now), "refuse": lambda: leg.refuse(chance.choice(CODES), self.now),
        }[deed]())

    def step(self, users, letters):
        self.now += 1
        for side in [0, 1]:
            if self.began[side] and users and self.chance.random() < 0.1:
                self.act(side)
        arriving = [letter for letter in self.on_the_way if letter[0] == self.now]
        self.on_the_way = [letter for letter in self.on_the_way if letter[0] > self.now]
        for _, side, text in arriving if letters else []:
            self.deliver(side, text)
        for side in [0, 1]:
            if self.began[side]:
                self.send(side, self.legs[side].tick(self.now))


class NetworkTest(unittest.TestCase):
    def check_side(self, run, side):
        leg, events = run.legs[side], run.events[side]
        ends = [event for event in events if event[0] == "over"]
        if leg.state == "over":
            self.assertEqual(len(ends), 1)
            self.assertEqual(events[-1], ends[0])
        else:
            self.assertEqual(ends, [])
        names = [event[0] for event in events]
        for name in ["rang", "answered", "kept"]:
            self.assertLessEqual(names.count(name), 1)
        if "rang" in names:
            self.assertEqual(names[0], "rang")
        for name in ["turn replied", "move replied", "turned", "moved"]:
            if side == 0 and name in names:
                self.assertLess(names.index("answered"), names.index(name))
        numbers = [parts[7] for parts in run.requests[side].values()]
        self.assertEqual(numbers, list(range(numbers[0], numbers[0] + len(numbers))) if numbers else [])
        self.assertEqual(list(run.requests[side]), [f"{leg.tag}w{many + 1}" for many in range(len(numbers))])

    def finish(self, run):
        """Let silence fall, and check that both sides come to their end."""
        for _ in range(run.check + 100 * run.first):
            run.step(users=False, letters=False)
        for side in [0, 1]:
            self.check_side(run, side)
            leg = run.legs[side]
            if leg.state in ("offered", "ringing"):
                self.assertIs(leg.is_done(), False)
                run.send(side, leg.hang_up(run.now))
                for _ in range(32 * run.first):
                    run.step(users=False, letters=False)
                self.check_side(run, side)
            self.assertEqual(leg.state, "over" if run.began[side] else "new")
            self.assertEqual(leg.is_done(), run.began[side])

    def test_then_silence(self):
        ends = {}
        for seed in range(400):
            run = Run(seed, worst=seed % 12)
            for _ in range(run.chance.randint(0, 250)):
                run.step(users=True, letters=True)
                for side in [0, 1]:
                    self.check_side(run, side)
            self.finish(run)
            for events in run.events:
                for event in events:
                    ends[event[:2] if event[0] == "over" else event[:1]] = True
        self.assertEqual(sorted(ends), sorted([
            ("rang",), ("answered",), ("kept",), ("turned",), ("moved",), ("turn replied",), ("move replied",),
            ("over", "hung"), ("over", "ended"), ("over", "failed"), ("over", "refused"), ("over", "stopped"),
            ("over", "lost")]))

    def test_both_learn_of_the_end(self):
        for seed in range(200):
            run = Run(seed, worst=seed % 5)
            for _ in range(200):
                run.step(users=True, letters=True)
            run.worst = 0
            for side in [0, 1]:
                if run.began[side]:
                    run.send(side, run.legs[side].hang_up(run.now))
            for _ in range(100 * run.first + run.check):
                run.step(users=False, letters=True)
            for side in [0, 1]:
                self.check_side(run, side)
                self.assertEqual(run.legs[side].is_done(), run.began[side])

    def test_what_is_asked_comes_once(self):
        for seed in range(200):
            run = Run(seed, worst=seed % 12)
            for _ in range(300):
                run.step(users=True, letters=True)
            for side in [0, 1]:
                asked = [parts[0] for parts in run.requests[1 - side].values()]
                names = [event[0] for event in run.events[side]]
                self.assertLessEqual(names.count("turned"), asked.count("TURN"))
                self.assertLessEqual(names.count("moved"), asked.count("MOVE"))
                own = [parts[0] for parts in run.requests[side].values()]
                names = [event[0] for event in run.events[side]]
                self.assertLessEqual(names.count("turn replied"), own.count("TURN"))
                self.assertLessEqual(names.count("move replied"), own.count("MOVE"))
