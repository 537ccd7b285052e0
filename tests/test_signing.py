"""Points 15.5 and 8.1 to 8.2: users sign on by phones, over a network that loses, doubles and delays letters."""

import unittest

from exchange_help import ABLE, AGAIN, LIMIT, make_config, short

from trunkland.letters import CODES, VERBS, Letter, read, write
from trunkland.network import World
from trunkland.phones import Phone

SIGN = "request SIGN\ncall s1\nfrom ann@x s\nto ann@x\nseq 1\nway s1\nstay 90\n"
REPLY = "reply 20 SIGN\ncall s1\nfrom ann@x s\nto ann@x x0n0\nseq 1\nway s1\nstay 90\n"
LOST = 1


def late(ticks):
    """Return the fate of a letter with one copy that is late."""
    return 4 * ticks + 2


def both(one, other, slowest=9):
    """Return the fate of a letter with two copies that are late."""
    return 4 * (one + (slowest + 1) * other) + 3


class PhoneTest(unittest.TestCase):
    def setUp(self):
        self.phone = Phone(place="p", user="ann", host="x", able=ABLE, first=2)

    def ticks(self, begin, end):
        """Let these ticks pass. Return each tick in which something is sent, with what is sent."""
        found = [(now, short(self.phone.tick(now))) for now in range(begin, end)]
        return [row for row in found if row[1]]

    def test_letter(self):
        self.assertEqual(self.phone.sign(90, 0), [("x", SIGN)])
        self.assertIs(self.phone.is_quiet(), False)
        self.assertEqual([self.phone.events, self.phone.state()], [[], "idle"])

    def test_next_letters(self):
        self.phone.sign(90, 0)
        for number, stay in [(2, 0), (3, 9999), (4, 7)]:
            told = f"request SIGN\ncall s{number}\nfrom ann@x s\nto ann@x\nseq {number}\nway s{number}\nstay {stay}\n"
            self.assertEqual(self.phone.sign(stay, 0), [("x", told)])

    def test_reply(self):
        self.phone.sign(90, 0)
        self.assertEqual(self.phone.receive(REPLY, "x", 1), [])
        self.assertIs(self.phone.is_quiet(), True)
        self.assertEqual(self.phone.receive(REPLY, "x", 2), [])
        self.assertEqual(self.ticks(1, 2 * LIMIT + 9), [])

    def test_any_final_reply_will_do(self):
        for code in CODES:
            for more in [{}, {"verb": "END"}, {"origin_tag": "p1"}, {"call": "c"}, {"seq": 9}, {"target_tag": ""}]:
                self.setUp()
                self.phone.sign(90, 0)
                reply = write(Letter(**{**vars(read(REPLY)), "code": code, **more}))
                self.assertEqual(self.phone.receive(reply, "x", 1), [])
                self.assertIs(self.phone.is_quiet(), code != 18)

    def test_replies_that_do_not_belong_to_it(self):
        self.phone.sign(90, 0)
        for verb in VERBS:
            for more in [{"way": "s2"}, {"way": "p1w1"}, {"code": None}]:
                letter = Letter(**{**vars(read(REPLY)), "verb": verb, **more})
                self.phone.receive(write(letter), "x", 1)
        self.phone.receive(REPLY, "q", 1)
        self.phone.receive(REPLY[:-1], "x", 1)
        self.assertIs(self.phone.is_quiet(), False)

    def test_replies_belong_to_one_of_several(self):
        for _ in range(3):
            self.phone.sign(90, 0)
        self.phone.receive(REPLY.replace("s1", "s2"), "x", 0)
        self.assertEqual(self.ticks(0, 3), [(2, ["x SIGN s> 1 stay 90", "x SIGN s> 3 stay 90"])])

    def test_sent_again_and_given_up(self):
        self.phone.sign(90, 0)
        self.assertEqual(self.ticks(0, 2 * LIMIT), [(2 * now, ["x SIGN s> 1 stay 90"]) for now in AGAIN])
        self.assertIs(self.phone.is_quiet(), False)
        self.assertEqual(self.ticks(2 * LIMIT, 2 * LIMIT + 9), [])
        self.assertIs(self.phone.is_quiet(), True)
        # A reply that comes later means nothing any more.
        self.assertEqual(self.phone.receive(REPLY, "x", 99), [])

    def test_also_while_a_call_is_seen(self):
        self.phone.dial("bob", 0)
        self.assertEqual(self.phone.sign(90, 0), [("x", SIGN)])
        self.phone.receive(REPLY, "x", 1)
        self.assertEqual(self.phone.state(), "calling")


class WorldTest(unittest.TestCase):
    """Ann signs on at p in tick 0; the fates are those of the first letters, all others are not lost."""

    def run_world(self, fates, ticks, commands=None, **more):
        """Return the ticks in which ann is bound, and those in which something is left to be done."""
        commands = commands or {0: [("sign", 0, 90)]}
        phone = Phone(place="p", user="ann", host="x", able=ABLE, first=2)
        world = World(make_config(**more), [phone], fates + [0] * 99, 9)
        bound, busy = [], []
        for now in range(ticks):
            world.step(commands.get(now, []))
            self.assertEqual(world.now, now + 1)
            # The bindings of the tick that has just passed.
            bindings = world.exchange.places.bindings(now)
            bound += [(now, end) for user, place, end in bindings if (user, place) == ("ann", "p")]
            busy += [now] if not world.is_quiet() else []
        self.world = world
        return bound, busy

    def check(self, fates, ticks, bound, busy, **more):
        """Check that ann is bound in these ticks with these ends, and that there is something to do till this tick."""
        found_bound, found_busy = self.run_world(fates, ticks, **more)
        self.assertEqual(found_bound, bound)
        self.assertEqual(found_busy, list(range(busy)))

    def test_good_network(self):
        self.check([], 100, [(now, 91) for now in range(1, 91)], 2)

    def test_longest_stay(self):
        self.check([], 100, [(now, 21) for now in range(1, 21)], 2, longest=20)

    def test_lost_letter_is_sent_again(self):
        self.check([LOST], 9, [(now, 93) for now in range(3, 9)], 4)

    def test_lost_reply(self):
        # The second letter changes nothing, but is replied to.
        self.check([0, LOST], 9, [(now, 91) for now in range(1, 9)], 4)

    def test_doubled_letter(self):
        self.check([both(0, 5)], 12, [(now, 91) for now in range(1, 12)], 7)

    def test_doubled_letter_the_second_copy_first(self):
        self.check([both(5, 1)], 12, [(now, 92) for now in range(2, 12)], 7)

    def test_late_letter(self):
        # The letter goes out once more in tick 2, and comes before the first one.
        self.check([late(9)], 15, [(now, 93) for now in range(3, 15)], 11)

    def test_given_up(self):
        self.check([LOST] * 7, 70, [], 2 * LIMIT)

    def test_unknown_user(self):
        self.check([], 9, [], 2, users=["bob"])

    def test_unknown_place(self):
        self.check([], 70, [], 2 * LIMIT, stations=["q"])

    def test_signing_off(self):
        bound, busy = self.run_world([], 20, {0: [("sign", 0, 90)], 5: [("sign", 0, 0)]})
        self.assertEqual(bound, [(now, 91) for now in range(1, 6)])
        self.assertEqual(busy, [0, 1, 5, 6])

    def test_signing_on_again(self):
        bound, _ = self.run_world([], 50, {0: [("sign", 0, 10)], 8: [("sign", 0, 10)], 30: [("sign", 0, 10)]})
        self.assertEqual(bound, [(now, 11) for now in range(1, 9)] + [(now, 19) for now in range(9, 19)]
                         + [(now, 41) for now in range(31, 41)])

    def test_older_letter_comes_later(self):
        # The letter of tick 0 is late, the one of tick 1 is not.
        bound, _ = self.run_world([late(6)], 20, {0: [("sign", 0, 90)], 1: [("sign", 0, 5)]})
        self.assertEqual(bound, [(now, 7) for now in range(2, 7)])

    def test_two_worlds(self):
        """Two worlds with the same numbers behave the same, also when they pass their ticks in turns."""
        worlds = [World(make_config(), [Phone(place="p", user="ann", host="x", able=ABLE)], [1, 6, 0, 7], 3)
                  for _ in range(2)]
        for now in range(30):
            for world in worlds:
                world.step([("sign", 0, 20)] if now == 3 else [])
            one, two = worlds
            self.assertEqual(one.exchange.places.bindings(now), two.exchange.places.bindings(now))
            self.assertEqual(one.is_quiet(), two.is_quiet())
