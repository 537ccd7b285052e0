"""Points 16.1 to 16.3: the fates of letters, the order in which they are delivered, and the order of a tick."""

import unittest

from exchange_help import ABLE, make_config, short

from trunkland.exchange import Exchange, restart
from trunkland.network import World
from trunkland.phones import Phone


class Recorder(Phone):
    """A phone that sends what it is told to send in its ticks, and notes in a log what reaches it."""

    def __init__(self, place, log, sending=()):
        super().__init__(place=place, user="ann", host="x", able=ABLE)
        self.log = log
        # What is sent in each tick.
        self.sending = dict(sending)

    def receive(self, text, place, now):
        self.log.append((now, self.place, place, text))
        return []

    def tick(self, now):
        return self.sending.get(now, [])


def run(fates, slowest, sending, ticks=40):
    """Return what reaches the phones p and q if p sends this in its ticks: the tick, the source and the text."""
    log = []
    world = World(make_config(), [Recorder("p", log, sending), Recorder("q", log)], fates, slowest)
    quiet = []
    for _ in range(ticks):
        world.step([])
        if world.is_quiet():
            quiet.append(world.now - 1)
    world.quiet = quiet
    return world, log


def at_q(*texts):
    return [("q", text) for text in texts]


class FateTest(unittest.TestCase):
    def arrivals(self, fates, slowest, sending):
        return [(now, text) for now, place, source, text in run(fates, slowest, sending)[1] if place == "q"]

    def test_without_fates(self):
        for slowest in [0, 5]:
            self.assertEqual(self.arrivals([], slowest, {0: at_q("a", "b"), 3: at_q("c")}),
                             [(1, "a"), (1, "b"), (4, "c")])

    def test_source_and_place(self):
        _, log = run([], 0, {2: [("q", "a"), ("p", "b")]})
        self.assertEqual(log, [(3, "q", "p", "a"), (3, "p", "p", "b")])

    def test_each_remainder(self):
        """With a slowest delay of 2, the delays of a fate are the digits of its fourth part, written to the base 3."""
        for fate, delays in [
            (0, [0]), (1, []), (2, [0]), (3, [0, 0]), (4, [0]), (5, []), (6, [1]), (7, [1, 0]), (8, [0]), (10, [2]),
            (11, [2, 0]), (14, [0]), (15, [0, 1]), (18, [1]), (19, [1, 1]), (23, [2, 1]), (27, [0, 2]), (31, [1, 2]),
            (35, [2, 2]), (36, [0]), (37, []), (38, [0]), (39, [0, 0]), (43, [1, 0]), (4003, [1, 0]), (10 ** 9, [0]),
        ]:
            found = self.arrivals([fate], 2, {5: at_q("a")})
            self.assertEqual(found, [(6 + delay, "a") for delay in sorted(delays)], fate)

    def test_all_fates(self):
        for slowest in range(4):
            for fate in range(4 * (slowest + 1) ** 2 + 9):
                part, span = fate // 4, slowest + 1
                delays = [[0], [], [part % span], [part % span, part // span % span]][fate % 4]
                found = self.arrivals([fate], slowest, {5: at_q("a")})
                self.assertEqual(found, [(6 + delay, "a") for delay in sorted(delays)])

    def test_no_delays(self):
        for fate, many in [(0, 1), (1, 0), (2, 1), (3, 2), (98, 1), (99, 2)]:
            self.assertEqual(self.arrivals([fate], 0, {0: at_q("a")}), [(1, "a")] * many)

    def test_fates_come_in_turns(self):
        sending = {0: at_q("a", "b", "c", "d"), 2: at_q("e"), 3: at_q("f", "g")}
        self.assertEqual(self.arrivals([0, 1, 6], 3, sending), [(1, "a"), (1, "d"), (2, "c"), (4, "g"), (5, "f")])

    def test_one_fate(self):
        self.assertEqual(self.arrivals([1], 3, {0: at_q("a", "b"), 1: at_q("c")}), [])
        self.assertEqual(self.arrivals([10], 3, {0: at_q("a"), 1: at_q("b")}), [(3, "a"), (4, "b")])

    def test_letters_to_all_places_take_fates(self):
        sending = {0: [("q", "a"), ("nowhere", "b"), ("q", "c"), ("x", "d"), ("q", "e"), ("p", "f"), ("q", "g")]}
        self.assertEqual(self.arrivals([0, 1, 6, 1, 10, 1, 14], 3, sending),
                         [(1, "a"), (2, "c"), (3, "e"), (4, "g")])
        self.assertEqual(self.arrivals([0, 1], 3, sending), [(1, "a"), (1, "c"), (1, "e"), (1, "g")])

    def test_lists_changed_afterwards(self):
        fates, log = [0, 0, 0], []
        phones = [Recorder("p", log, {0: at_q("a", "b"), 1: at_q("c")}), Recorder("q", log)]
        world = World(make_config(), phones, fates, 0)
        fates[:] = [1]
        phones.pop()
        for _ in range(3):
            world.step([])
        self.assertEqual([text for _, _, _, text in log], ["a", "b", "c"])
        self.assertEqual([phone.place for phone in world.phones], ["p", "q"])


class OrderTest(unittest.TestCase):
    def test_letters_come_in_the_order_in_which_they_were_sent(self):
        # All of these arrive in tick 4: the delays are 3, 2, 2, 1 and 0.
        sending = {0: at_q("a"), 1: at_q("b", "c"), 2: at_q("d"), 3: at_q("e")}
        _, log = run([14, 10, 10, 6, 0], 3, sending)
        self.assertEqual([(row[0], row[3]) for row in log], [(4, text) for text in "abcde"])

    def test_copies(self):
        # Of "a" both copies arrive in tick 2, of "b" one in tick 3 and one in tick 2, of "c" one in tick 2.
        _, log = run([4 * (1 + 4) + 3, 4 * 2 + 3 + 16, 6, 0], 3, {0: at_q("a", "b", "c"), 1: at_q("d")})
        self.assertEqual([(row[0], row[3]) for row in log],
                         [(2, "a"), (2, "a"), (2, "b"), (2, "c"), (2, "d"), (3, "b")])

    def test_order_of_a_tick(self):
        """Commands in their order, letters, the exchange, then the phones in their order."""
        log = []

        class Noting(Phone):
            def note(self, what, now):
                log.append((now, self.place, what))

            def sign(self, stay, now):
                self.note("sign", now)
                return [("x", f"sign {stay}")]

            def receive(self, text, place, now):
                self.note(f"receive {text} from {place}", now)
                return [("x", "received")]

            def tick(self, now):
                self.note("tick", now)
                return [("q", f"tick {self.place}")]

        class Exchanging(Exchange):
            def receive(self, text, place, now):
                log.append((now, "x", f"receive {text} from {place}"))
                return [("p", "heard")]

            def hang_up(self, number, now):
                log.append((now, "x", f"hang up {number}"))
                return [("p", "hung")]

            def tick(self, now):
                log.append((now, "x", "tick"))
                return []

        phones = [Noting(place=place, user="ann", host="x", able=ABLE) for place in "pq"]
        world = World(make_config(), phones, [], 0)
        world.exchange.__class__ = Exchanging
        commands = [("sign", 1, 7), ("operator", 5), ("sign", 0, 8)]
        world.step(commands)
        self.assertEqual(log, [(0, "q", "sign"), (0, "x", "hang up 5"), (0, "p", "sign"), (0, "x", "tick"),
                               (0, "p", "tick"), (0, "q", "tick")])
        self.assertEqual(commands, [("sign", 1, 7), ("operator", 5), ("sign", 0, 8)])
        log.clear()
        world.step([("operator", 6)])
        self.assertEqual(log, [
            (1, "x", "hang up 6"), (1, "x", "receive sign 7 from q"), (1, "p", "receive hung from x"),
            (1, "x", "receive sign 8 from p"), (1, "q", "receive tick p from p"), (1, "q", "receive tick q from q"),
            (1, "x", "tick"), (1, "p", "tick"), (1, "q", "tick")])
        log.clear()
        world.step([])
        self.assertEqual(log[:5], [
            (2, "p", "receive hung from x"), (2, "p", "receive heard from x"), (2, "x", "receive received from p"),
            (2, "p", "receive heard from x"), (2, "x", "receive received from q")])

    def test_commands(self):
        log = []

        class Noting(Phone):
            def noting(self, *told):
                log.append((self.place, *told))
                return []

            def dial(self, user, now):
                return self.noting("dial", user, now)

            def move(self, user, now):
                return self.noting("move", user, now)

            def sign(self, stay, now):
                return self.noting("sign", stay, now)

            def answer(self, now):
                return self.noting("answer", now)

            def hold(self, now):
                return self.noting("hold", now)

            def resume(self, now):
                return self.noting("resume", now)

            def hang_up(self, now):
                return self.noting("hang up", now)

        world = World(make_config(), [Noting(place=place, user="ann", host="x", able=ABLE) for place in "pqr"], [], 0)
        world.step([])
        world.step([("dial", 0, "bob"), ("move", 2, "cat"), ("sign", 1, 9), ("answer", 0), ("hold", 1), ("resume", 2),
                    ("hang up", 0), ("operator", 3)])
        self.assertEqual(log, [("p", "dial", "bob", 1), ("r", "move", "cat", 1), ("q", "sign", 9, 1), ("p", "answer", 1),
                               ("q", "hold", 1), ("r", "resume", 1), ("p", "hang up", 1)])


class WorldTest(unittest.TestCase):
    def test_fields(self):
        config = make_config()
        phones = [Recorder("p", [])]
        world = World(config, phones, [], 0)
        self.assertEqual([world.now, world.phones, world.exchange.events], [0, phones, []])
        self.assertIs(world.exchange.config, config)
        self.assertIs(world.phones[0], phones[0])
        self.assertIs(world.is_quiet(), True)
        self.assertIsNone(world.step([]))
        self.assertEqual(world.now, 1)

    def test_no_phones(self):
        world = World(make_config(), [], [3], 4)
        world.step([("operator", 1)])
        self.assertIs(world.is_quiet(), True)

    def test_quiet_when_nothing_is_on_its_way(self):
        for fate, begin in [(0, 6), (1, 5), (14, 9), (4 * (1 + 4 * 3) + 3, 9), (15, 9), (23, 7)]:
            world, _ = run([fate], 3, {5: at_q("a")}, 12)
            self.assertEqual(world.quiet, [now for now in range(12) if now < 5 or now >= begin], fate)

    def test_letters_to_unknown_places_are_on_their_way(self):
        world, log = run([10], 3, {5: [("nowhere", "a")]}, 12)
        self.assertEqual([world.quiet, log], [[now for now in range(12) if now < 5 or now >= 8], []])

    def test_quiet_when_the_exchange_and_the_phones_are(self):
        phone = Phone(place="p", user="ann", host="x", able=ABLE, first=1)
        # Nothing arrives, so the phone gives up after 32 ticks.
        world = World(make_config(), [phone], [1], 0)
        quiet = []
        for now in range(40):
            world.step([("dial", 0, "bob")] if now == 0 else [])
            quiet.append(world.is_quiet())
        self.assertEqual(quiet, [False] * 32 + [True] * 8)
        # Only the first letter arrives: the exchange has a leg until it gives its refusal up.
        phone = Phone(place="p", user="ann", host="x", able=ABLE, first=1)
        world = World(make_config(first=3), [phone], [0] + [1] * 99, 0)
        quiet = []
        for now in range(110):
            world.step([("dial", 0, "bob")] if now == 0 else [])
            quiet.append(world.is_quiet())
        self.assertEqual(quiet, [False] * 97 + [True] * 13)

    def test_exchange_that_is_started_again(self):
        phone = Phone(place="p", user="ann", host="x", able=ABLE)
        world = World(make_config(), [phone], [], 0)
        world.step([("sign", 0, 90)])
        world.exchange = restart(world.exchange.config, "", 1, 1)
        world.step([])
        self.assertEqual(world.exchange.places.bindings(1), [("ann", "p", 91)])

    def test_real_letters(self):
        """What the exchange sends goes to the phones, and what the phones send to the exchange."""
        texts = []

        class Noting(Phone):
            def receive(self, text, place, now):
                texts.append((now, self.place, place, *short([(self.place, text)])))
                return super().receive(text, place, now)

        phones = [Noting(place="p", user="ann", host="x", able=ABLE, first=9),
                  Noting(place="q", user="bob", host="x", able=ABLE, first=9, auto=2)]
        world = World(make_config(first=9), phones, [], 0)
        world.step([("sign", 1, 90)])
        world.step([])
        world.step([("dial", 0, "bob")])
        for _ in range(5):
            world.step([])
        self.assertEqual(texts, [
            (2, "q", "x", "q 20 SIGN s>x0n0 1 stay 90"), (4, "q", "x", "q CALL ann@x>bob@x x0n2> 1 [40 both a,b]"),
            (6, "p", "x", "p 18 CALL p1>x0n1 1")])
        self.assertEqual([phone.state() for phone in phones], ["ringing", "talking"])
