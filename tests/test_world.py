"""Points 14 to 16 on a good network: who is told what, when users call, hang up, hold, resume and move."""

import unittest

from exchange_help import TARIFF, make_config

from trunkland.calls import tell
from trunkland.judging import judge
from trunkland.network import World
from trunkland.offers import flows
from trunkland.phones import Phone

PLACES = ["p", "q", "r", "s"]
DIAL = 10


class WorldCase(unittest.TestCase):
    """Ann is at p, bob at q, and whoever is named at r and s. A letter takes one tick to the exchange, one from there.

    All sign on in tick 0; ann dials bob in tick 10.
    """

    def make(self, users=("ann", "bob", "cat"), settings=None, **more):
        """Make a world; `settings` are those of the phones at their places, `more` those of the exchange."""
        phones = []
        for at, (user, place) in enumerate(zip(users, PLACES)):
            parts = {"able": (100 + at, "both", ("a", "b")), "first": 9, **(settings or {}).get(place, {})}
            phones.append(Phone(place=place, user=user, host="x", **parts))
        self.world = World(make_config(**{"first": 9, "check": 1000, **more}), phones, [], 0)
        self.told = [0] * len(phones)
        self.commands = {0: [("sign", at, 500) for at in range(len(phones))]}

    def at(self, now, *commands):
        self.commands.setdefault(now, []).extend(commands)

    def until(self, now):
        while self.world.now < now:
            self.world.step(self.commands.get(self.world.now, []))

    def check_phone(self, index, *events):
        """Check what the user of a phone has been told since the last such check."""
        told, self.told[index] = self.told[index], len(self.world.phones[index].events)
        self.assertEqual(self.world.phones[index].events[told:], list(events))

    def check_exchange(self, *events):
        self.assertEqual(self.world.exchange.events, list(events))

    def check_bills(self, *bills):
        ledger = self.world.exchange.ledger
        self.assertEqual([ledger.bills(), ledger.pending()], [list(bills), []])
        self.assertEqual(judge(self.world.exchange.events, TARIFF, ledger.bills(), ledger.pending()), [])

    def check_over(self, now):
        """Check that all is over within a limit behind a tick, and nobody is told more."""
        before = [list(phone.events) for phone in self.world.phones]
        self.until(now + 33 * 9)
        self.assertIs(self.world.is_quiet(), True)
        self.assertEqual([phone.events for phone in self.world.phones], before)
        self.assertEqual([phone.state() for phone in self.world.phones], ["idle"] * len(before))


class CallTest(WorldCase):
    BEGUN = ("begin", 11, 1, "ann@x", "bob@x")

    def test_answered_and_hung_up_by_the_caller(self):
        self.make()
        self.at(DIAL, ("dial", 0, "bob"))
        self.at(20, ("answer", 1))
        self.at(40, ("hang up", 0))
        self.until(13)
        self.assertEqual([phone.state() for phone in self.world.phones], ["calling", "offered", "idle"])
        self.until(15)
        self.assertEqual([phone.state() for phone in self.world.phones], ["ringing", "offered", "idle"])
        self.until(50)
        self.check_phone(0, ("dial", 10, "p1", "bob@x"), ("rang", 14, "p1"), ("talk", 22, "p1"),
                         ("end", 40, "p1", "hung", 20))
        self.check_phone(1, ("incoming", 12, "p1", "ann@x"), ("talk", 20, "p1"), ("end", 42, "p1", "ended", 20))
        self.check_phone(2)
        self.check_exchange(self.BEGUN, ("ring", 13, 1), ("answer", 21, 1, "q"), ("end", 41, 1, "caller"))
        self.check_bills((1, "ann@x", "bob@x", 21, 41, 60))
        self.check_over(50)

    def test_hung_up_by_the_callee(self):
        self.make(settings={"q": {"auto": 3}})
        self.at(DIAL, ("dial", 0, "bob"))
        self.at(40, ("hang up", 1))
        self.until(50)
        self.check_phone(0, ("dial", 10, "p1", "bob@x"), ("rang", 14, "p1"), ("talk", 17, "p1"),
                         ("end", 42, "p1", "ended", 20))
        self.check_phone(1, ("incoming", 12, "p1", "ann@x"), ("talk", 15, "p1"), ("end", 40, "p1", "hung", 20))
        self.check_exchange(self.BEGUN, ("ring", 13, 1), ("answer", 16, 1, "q"), ("end", 41, 1, "callee"))
        self.check_bills((1, "ann@x", "bob@x", 16, 41, 61))
        self.check_over(50)

    def test_both_hang_up_at_once(self):
        self.make(settings={"q": {"auto": 0}})
        self.at(DIAL, ("dial", 0, "bob"))
        self.at(40, ("hang up", 1), ("hang up", 0))
        self.until(50)
        self.check_phone(0, ("dial", 10, "p1", "bob@x"), ("rang", 14, "p1"), ("talk", 14, "p1"),
                         ("end", 40, "p1", "hung", 20))
        self.check_phone(1, ("incoming", 12, "p1", "ann@x"), ("talk", 12, "p1"), ("end", 40, "p1", "hung", 20))
        self.check_exchange(self.BEGUN, ("ring", 13, 1), ("answer", 13, 1, "q"), ("end", 41, 1, "callee"))
        self.check_bills((1, "ann@x", "bob@x", 13, 41, 61))
        self.check_over(50)

    def test_refused(self):
        self.make()
        self.at(DIAL, ("dial", 0, "bob"))
        self.at(20, ("hang up", 1))
        self.until(30)
        self.check_phone(0, ("dial", 10, "p1", "bob@x"), ("rang", 14, "p1"), ("end", 22, "p1", "failed", 44))
        self.check_phone(1, ("incoming", 12, "p1", "ann@x"), ("end", 20, "p1", "refused", 44))
        self.check_exchange(self.BEGUN, ("ring", 13, 1), ("end", 21, 1, "refused"))
        self.check_bills()
        self.check_over(30)

    def test_stopped(self):
        for hangs, ends, ended in [(11, 13, 12), (12, 14, 13), (20, 22, 21)]:
            self.make()
            self.at(DIAL, ("dial", 0, "bob"))
            self.at(hangs, ("hang up", 0))
            self.until(30)
            self.assertEqual(self.world.phones[0].events[-1], ("end", hangs, "p1", "hung", 45))
            self.check_phone(1, ("incoming", 12, "p1", "ann@x"), ("end", ends, "p1", "stopped", 45))
            self.assertEqual(self.world.exchange.events[-1], ("end", ended, 1, "stopped"))
            self.check_bills()
            self.check_over(30)

    def test_stop_and_answer_cross(self):
        self.make()
        self.at(DIAL, ("dial", 0, "bob"))
        self.at(20, ("hang up", 0), ("answer", 1))
        self.until(30)
        # The letters arrive in the order in which they were sent: the call has ended when the answer comes.
        self.check_phone(0, ("dial", 10, "p1", "bob@x"), ("rang", 14, "p1"), ("end", 20, "p1", "hung", 45))
        self.check_phone(1, ("incoming", 12, "p1", "ann@x"), ("talk", 20, "p1"), ("end", 22, "p1", "ended", 20))
        self.check_exchange(self.BEGUN, ("ring", 13, 1), ("end", 21, 1, "stopped"))
        self.check_bills()
        self.check_over(30)

    def test_answer_and_stop_cross(self):
        self.make()
        self.at(DIAL, ("dial", 0, "bob"))
        self.at(20, ("answer", 1), ("hang up", 0))
        self.until(30)
        # The answer comes first: the caller's phone ends the call when it learns of it.
        self.check_phone(0, ("dial", 10, "p1", "bob@x"), ("rang", 14, "p1"), ("end", 20, "p1", "hung", 45))
        self.check_phone(1, ("incoming", 12, "p1", "ann@x"), ("talk", 20, "p1"), ("end", 24, "p1", "ended", 20))
        self.check_exchange(self.BEGUN, ("ring", 13, 1), ("answer", 21, 1, "q"), ("end", 23, 1, "caller"))
        self.check_bills((1, "ann@x", "bob@x", 21, 23, 30))
        self.check_over(30)

    def test_nobody_answers(self):
        for phone, callee, exchange, events in [
            (50, 90, 90, [("end", 60, "p1", "hung", 45), ("end", 62, "p1", "stopped", 45), ("end", 61, 1, "stopped")]),
            (90, 50, 90, [("end", 64, "p1", "failed", 48), ("end", 62, "p1", "refused", 48), ("end", 63, 1, "refused")]),
            (90, 90, 50, [("end", 62, "p1", "failed", 48), ("end", 62, "p1", "stopped", 45),
                          ("end", 61, 1, "unanswered")]),
        ]:
            self.make(settings={"p": {"patience": phone}, "q": {"patience": callee}}, patience=exchange)
            self.at(DIAL, ("dial", 0, "bob"))
            self.until(100)
            self.check_phone(0, ("dial", 10, "p1", "bob@x"), ("rang", 14, "p1"), events[0])
            self.check_phone(1, ("incoming", 12, "p1", "ann@x"), events[1])
            self.check_exchange(self.BEGUN, ("ring", 13, 1), events[2])
            self.check_bills()
            self.check_over(100)

    def test_nobody_there(self):
        for user in ["dan", "eve"]:
            self.make()
            self.at(DIAL, ("dial", 0, user))
            self.until(20)
            self.check_phone(0, ("dial", 10, "p1", f"{user}@x"), ("end", 12, "p1", "failed", 43))
            self.check_exchange(("begin", 11, 1, "ann@x", f"{user}@x"), ("end", 11, 1, "refused"))
            self.check_bills()
            self.check_over(20)

    def test_no_common_format(self):
        self.make(settings={"q": {"able": (7, "both", ("z",)), "auto": 4}})
        self.at(DIAL, ("dial", 0, "bob"))
        self.until(30)
        self.check_phone(0, ("dial", 10, "p1", "bob@x"), ("rang", 14, "p1"), ("end", 18, "p1", "failed", 46))
        self.check_phone(1, ("incoming", 12, "p1", "ann@x"), ("end", 16, "p1", "refused", 46))
        self.check_exchange(self.BEGUN, ("ring", 13, 1), ("end", 17, 1, "refused"))
        self.check_over(30)

    def test_busy(self):
        self.make(settings={"q": {"auto": 0}})
        self.at(DIAL, ("dial", 0, "bob"))
        self.at(20, ("dial", 2, "bob"))
        self.until(30)
        self.check_phone(2, ("dial", 20, "p1", "bob@x"), ("end", 24, "p1", "failed", 44))
        self.check_phone(1, ("incoming", 12, "p1", "ann@x"), ("talk", 12, "p1"))
        self.assertEqual(self.world.exchange.events[-1], ("end", 23, 2, "refused"))

    def test_two_who_call_each_other(self):
        self.make()
        self.at(DIAL, ("dial", 0, "bob"), ("dial", 1, "ann"))
        self.until(30)
        self.check_phone(0, ("dial", 10, "p1", "bob@x"), ("end", 14, "p1", "failed", 44))
        self.check_phone(1, ("dial", 10, "p1", "ann@x"), ("end", 14, "p1", "failed", 44))
        self.check_over(30)

    def test_user_who_calls_herself(self):
        self.make()
        self.at(DIAL, ("dial", 0, "ann"))
        self.until(30)
        self.check_phone(0, ("dial", 10, "p1", "ann@x"), ("end", 14, "p1", "failed", 44))
        self.check_over(30)

    def test_operator(self):
        self.make(settings={"q": {"auto": 3}})
        self.at(DIAL, ("dial", 0, "bob"))
        self.at(40, ("operator", 1))
        self.until(50)
        self.assertEqual(self.world.phones[0].events[-1], ("end", 41, "p1", "ended", 20))
        self.assertEqual(self.world.phones[1].events[-1], ("end", 41, "p1", "ended", 20))
        self.check_exchange(self.BEGUN, ("ring", 13, 1), ("answer", 16, 1, "q"), ("end", 40, 1, "operator"))
        self.check_bills((1, "ann@x", "bob@x", 16, 40, 61))
        self.check_over(50)

    def test_operator_while_it_rings(self):
        self.make()
        self.at(DIAL, ("dial", 0, "bob"))
        self.at(20, ("operator", 1), ("operator", 2))
        self.until(30)
        self.check_phone(0, ("dial", 10, "p1", "bob@x"), ("rang", 14, "p1"), ("end", 21, "p1", "failed", 50))
        self.check_phone(1, ("incoming", 12, "p1", "ann@x"), ("end", 21, "p1", "stopped", 45))
        self.check_over(30)

    def test_nobody_hangs_up(self):
        """The call goes on as long as both sides are there, and both are asked whether they are."""
        self.make(settings={"q": {"auto": 0, "check": 7}}, check=11)
        self.at(DIAL, ("dial", 0, "bob"))
        self.until(1500)
        self.assertEqual([phone.state() for phone in self.world.phones], ["talking", "talking", "idle"])
        self.check_exchange(self.BEGUN, ("ring", 13, 1), ("answer", 13, 1, "q"))
        self.assertEqual(self.world.exchange.ledger.pending(), [1])
        self.at(1500, ("hang up", 1))
        self.until(1510)
        self.check_bills((1, "ann@x", "bob@x", 13, 1501, TARIFF.cost(1488)))
        self.check_over(1510)

    def test_one_call_after_the_other(self):
        self.make(settings={"q": {"auto": 0}})
        for number in range(12):
            self.at(DIAL + 10 * number, ("dial", number % 2 * 2, "bob"))
            self.at(DIAL + 10 * number + 6, ("hang up", 1))
        self.until(200)
        self.assertEqual([event[2] for event in self.world.phones[1].events if event[0] == "talk"],
                         [f"p{number}" for number in range(1, 13)])
        self.check_bills(*[(number + 1, ["ann@x", "cat@x"][number % 2], "bob@x", 13 + 10 * number, 17 + 10 * number, 30)
                           for number in range(12)])


class PlacesTest(WorldCase):
    """Bob is at q, r and s."""

    def make_bobs(self, **settings):
        self.make(["ann", "bob", "bob", "bob"], settings)
        self.at(DIAL, ("dial", 0, "bob"))

    def test_one_answers(self):
        self.make_bobs()
        self.at(20, ("answer", 2))
        self.at(40, ("hang up", 0))
        self.until(50)
        self.check_phone(0, ("dial", 10, "p1", "bob@x"), ("rang", 14, "p1"), ("talk", 22, "p1"),
                         ("end", 40, "p1", "hung", 20))
        self.check_phone(1, ("incoming", 12, "p1", "ann@x"), ("end", 22, "p1", "stopped", 45))
        self.check_phone(2, ("incoming", 12, "p1", "ann@x"), ("talk", 20, "p1"), ("end", 42, "p1", "ended", 20))
        self.check_phone(3, ("incoming", 12, "p1", "ann@x"), ("end", 22, "p1", "stopped", 45))
        self.check_exchange(("begin", 11, 1, "ann@x", "bob@x"), ("ring", 13, 1), ("answer", 21, 1, "r"),
                            ("end", 41, 1, "caller"))
        self.check_bills((1, "ann@x", "bob@x", 21, 41, 60))
        self.check_over(50)

    def test_several_answer_at_once(self):
        self.make_bobs()
        self.at(20, ("answer", 3), ("answer", 1), ("answer", 2))
        self.until(50)
        self.check_phone(1, ("incoming", 12, "p1", "ann@x"), ("talk", 20, "p1"), ("end", 22, "p1", "ended", 20))
        self.check_phone(2, ("incoming", 12, "p1", "ann@x"), ("talk", 20, "p1"), ("end", 22, "p1", "ended", 20))
        self.check_phone(3, ("incoming", 12, "p1", "ann@x"), ("talk", 20, "p1"))
        self.assertEqual(self.world.exchange.events[2:], [("answer", 21, 1, "s")])

    def test_all_refuse(self):
        self.make_bobs(r={"able": (7, "both", ("z",))})
        self.at(20, ("hang up", 1))
        self.at(22, ("answer", 2))
        self.at(24, ("hang up", 3))
        self.until(40)
        self.check_phone(0, ("dial", 10, "p1", "bob@x"), ("rang", 14, "p1"), ("end", 26, "p1", "failed", 46))
        self.check_exchange(("begin", 11, 1, "ann@x", "bob@x"), ("ring", 13, 1), ("end", 25, 1, "refused"))
        self.check_over(40)

    def test_signing_off_one_place(self):
        self.make_bobs()
        self.at(5, ("sign", 2, 0))
        self.at(20, ("answer", 3))
        self.until(50)
        self.check_phone(2)
        self.check_phone(1, ("incoming", 12, "p1", "ann@x"), ("end", 22, "p1", "stopped", 45))


class TalkTest(WorldCase):
    """Ann and bob talk from tick 16 on, cat is at r, dan at s; letters of users are sent from tick 30 on."""

    def talk(self, settings=None, **more):
        self.make(["ann", "bob", "cat", "dan"], {"q": {"auto": 0}, **(settings or {})}, **more)
        self.at(DIAL, ("dial", 0, "bob"))
        self.until(20)
        self.assertEqual([phone.state() for phone in self.world.phones[:2]], ["talking", "talking"])
        for index in range(4):
            self.told[index] = len(self.world.phones[index].events)

    def heard(self, index):
        """Return the latest mode of the other side that a user has been told, or "both"."""
        modes = [event[3] for event in self.world.phones[index].events if event[0] == "turned"]
        return modes[-1] if modes else "both"

    def check_flows(self, there, back):
        """Check whether voice flows from ann to bob and back, by what both have heard and as the exchange tells it."""
        offers = [(1, mode, ("a",)) for mode in [self.heard(1), self.heard(0)]]
        self.assertEqual(flows(*offers), (there, back))
        (call,), wrong = tell(self.world.exchange.events)
        self.assertEqual(wrong, [])
        self.assertEqual(flows((1, call[8], ("a",)), (2, call[9], ("a",))), (there, back))

    def test_holding_and_resuming(self):
        self.talk()
        self.check_flows(True, True)
        self.at(30, ("hold", 0))
        self.at(40, ("hold", 1))
        self.at(50, ("resume", 0))
        self.at(60, ("resume", 1))
        self.until(35)
        self.check_phone(0)
        self.check_phone(1, ("turned", 32, "p1", "send"))
        self.check_flows(True, False)
        self.until(45)
        self.check_phone(0, ("turned", 42, "p1", "send"))
        self.check_flows(False, False)
        self.until(55)
        self.check_phone(1, ("turned", 52, "p1", "both"))
        self.check_flows(False, True)
        self.until(65)
        self.check_phone(0, ("turned", 62, "p1", "both"))
        self.check_flows(True, True)
        self.assertEqual(self.world.exchange.events[3:], [
            ("turn", 31, 1, 0, "send"), ("turn", 41, 1, 1, "send"), ("turn", 51, 1, 0, "both"),
            ("turn", 61, 1, 1, "both")])

    def test_both_hold_at_once(self):
        self.talk()
        self.at(30, ("hold", 0), ("hold", 1))
        self.until(40)
        self.check_phone(0, ("turned", 32, "p1", "send"))
        self.check_phone(1, ("turned", 32, "p1", "send"))
        self.check_flows(False, False)

    def test_many_turns_at_once(self):
        self.talk()
        self.at(30, *[("hold", 0), ("resume", 0)] * 3)
        self.until(60)
        # Each one waits for the reply to the one before.
        self.check_phone(1, *[("turned", 32 + 2 * at, "p1", ["send", "both"][at % 2]) for at in range(6)])

    def test_move_to_somebody_who_answers(self):
        self.talk({"r": {"auto": 4}})
        self.at(30, ("move", 1, "cat"))
        self.at(60, ("hang up", 0))
        self.until(70)
        self.check_phone(2, ("incoming", 32, "p1", "ann@x"), ("talk", 36, "p1"), ("end", 62, "p1", "ended", 20))
        self.check_phone(1, ("end", 38, "p1", "ended", 20))
        self.check_phone(0, ("turned", 38, "p1", "both"), ("end", 60, "p1", "hung", 20))
        self.assertEqual(self.world.exchange.events[3:], [("move", 31, 1, 1, "cat@x"), ("moved", 37, 1, 1),
                                                         ("end", 61, 1, "caller")])
        self.check_bills((1, "ann@x", "bob@x", 13, 61, 63))
        self.check_over(70)

    def test_caller_moves_the_callee(self):
        self.talk({"r": {"auto": 4}})
        self.at(30, ("move", 0, "cat"))
        self.at(60, ("hang up", 2))
        self.until(70)
        self.check_phone(2, ("incoming", 32, "p1", "bob@x"), ("talk", 36, "p1"), ("end", 60, "p1", "hung", 20))
        self.check_phone(0, ("end", 38, "p1", "ended", 20))
        self.check_phone(1, ("turned", 38, "p1", "both"), ("end", 62, "p1", "ended", 20))
        self.assertEqual(self.world.exchange.events[3:], [("move", 31, 1, 0, "cat@x"), ("moved", 37, 1, 0),
                                                         ("end", 61, 1, "caller")])
        self.check_bills((1, "ann@x", "bob@x", 13, 61, 63))
        self.check_over(70)

    def test_moving_on(self):
        self.talk({"r": {"auto": 0}, "s": {"auto": 0}})
        self.at(30, ("move", 1, "cat"))
        self.at(50, ("move", 2, "dan"))
        self.at(70, ("hold", 3))
        self.until(80)
        self.check_phone(2, ("incoming", 32, "p1", "ann@x"), ("talk", 32, "p1"), ("end", 54, "p1", "ended", 20))
        self.check_phone(3, ("incoming", 52, "p1", "ann@x"), ("talk", 52, "p1"))
        self.check_phone(0, ("turned", 34, "p1", "both"), ("turned", 54, "p1", "both"), ("turned", 72, "p1", "send"))
        (call,), _ = tell(self.world.exchange.events)
        self.assertEqual(call[8:], ("both", "send", 2))

    def test_move_to_somebody_who_is_held(self):
        """The one who is moved holds: the new one is offered what the held one offered last."""
        self.talk({"r": {"auto": 0}})
        self.at(30, ("hold", 0))
        self.at(40, ("move", 1, "cat"))
        self.until(50)
        self.check_phone(2, ("incoming", 42, "p1", "ann@x"), ("talk", 42, "p1"))
        # The answer to an offer that does not take is one that does not send.
        self.check_phone(0, ("turned", 44, "p1", "take"))

    def test_move_to_somebody_who_does_not_answer_in_time(self):
        self.talk({"r": {"patience": 500}}, patience=20)
        self.at(30, ("move", 1, "cat"))
        self.at(80, ("hang up", 1))
        self.until(70)
        self.check_phone(2, ("incoming", 32, "p1", "ann@x"), ("end", 52, "p1", "stopped", 45))
        self.check_phone(0)
        self.check_phone(1)
        self.assertEqual([phone.state() for phone in self.world.phones], ["talking", "talking", "idle", "idle"])
        self.until(90)
        self.check_phone(0, ("end", 82, "p1", "ended", 20))
        self.check_bills((1, "ann@x", "bob@x", 13, 81, 65))
        self.check_over(90)

    def test_move_to_somebody_who_refuses(self):
        for settings, end in [({}, ("end", 40, "p1", "refused", 44)),
                              ({"able": (7, "both", ("z",)), "auto": 8}, ("end", 40, "p1", "refused", 46)),
                              ({"patience": 8}, ("end", 40, "p1", "refused", 48))]:
            self.talk({"r": settings})
            self.at(30, ("move", 1, "cat"))
            self.at(40, *[("hang up", 2)] * (not settings))
            self.at(50, ("hold", 0))
            self.until(60)
            self.check_phone(2, ("incoming", 32, "p1", "ann@x"), end)
            self.check_phone(0)
            self.check_phone(1, ("turned", 52, "p1", "send"))

    def test_move_to_nobody(self):
        for goal in ["eve", "x"]:
            self.talk()
            self.at(30, ("move", 1, goal))
            self.at(40, ("hold", 0))
            self.until(60)
            self.check_phone(0)
            self.check_phone(1, ("turned", 42, "p1", "send"))
            self.assertEqual(len(self.world.exchange.events), 4)

    def test_move_to_somebody_who_is_busy(self):
        self.talk({"r": {"auto": 0}})
        self.at(20, ("dial", 3, "cat"))
        self.at(30, ("move", 1, "cat"))
        self.until(60)
        self.check_phone(2, ("incoming", 22, "p1", "dan@x"), ("talk", 22, "p1"))
        self.assertEqual([phone.state() for phone in self.world.phones], ["talking"] * 4)

    def test_hanging_up_while_a_move_is_under_way(self):
        for index, why in [(0, "caller"), (1, "callee")]:
            self.talk()
            self.at(30, ("move", 1, "cat"))
            self.at(40, ("hang up", index))
            self.until(60)
            self.check_phone(2, ("incoming", 32, "p1", "ann@x"), ("end", 42, "p1", "stopped", 45))
            self.check_phone(index, ("end", 40, "p1", "hung", 20))
            self.check_phone(1 - index, ("end", 42, "p1", "ended", 20))
            self.check_bills((1, "ann@x", "bob@x", 13, 41, 61))
            self.assertEqual(self.world.exchange.events[-1], ("end", 41, 1, why))
            self.check_over(60)

    def test_several_who_are_moved_to(self):
        self.make(["ann", "bob", "cat", "cat"], {"q": {"auto": 0}})
        self.at(DIAL, ("dial", 0, "bob"))
        self.at(30, ("move", 1, "cat"))
        self.at(40, ("answer", 3))
        self.until(60)
        self.check_phone(2, ("incoming", 32, "p1", "ann@x"), ("end", 42, "p1", "stopped", 45))
        self.check_phone(3, ("incoming", 32, "p1", "ann@x"), ("talk", 40, "p1"))
        self.assertEqual(self.world.phones[1].events[-1], ("end", 42, "p1", "ended", 20))
        self.assertEqual(self.world.phones[0].events[-1], ("turned", 42, "p1", "both"))


class CommandTest(WorldCase):
    def test_commands_of_a_tick_come_in_their_order(self):
        self.make(["ann", "bob"], {"q": {"auto": 0}})
        self.at(DIAL, ("dial", 0, "bob"), ("hang up", 0), ("dial", 0, "bob"))
        self.until(30)
        self.assertEqual([event[:3] for event in self.world.phones[0].events[:3]],
                         [("dial", 10, "p1"), ("end", 10, "p1"), ("dial", 10, "p2")])

    def test_commands_are_not_changed(self):
        self.make()
        commands = [("dial", 0, "bob"), ("answer", 0)]
        self.world.step(commands)
        self.assertEqual(commands, [("dial", 0, "bob"), ("answer", 0)])
