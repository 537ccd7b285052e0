"""Point 18.1: findings about events and bills."""

import copy
import itertools
import random
import unittest

from exchange_help import TARIFF

from trunkland.judging import judge

BEGIN = ("begin", 3, 1, "ann@x", "bob@x")
RING = ("ring", 4, 1)
ANSWER = ("answer", 5, 1, "q")
END = ("end", 26, 1, "caller")
WHOLE = [BEGIN, RING, ANSWER, END]
BILL = (1, "ann@x", "bob@x", 5, 26, 61)


def whole(number, begin=3, answer=5, end=26):
    """Return the events of a call that is answered and has ended."""
    return [("begin", begin, number, "ann@x", "bob@x"), ("answer", answer, number, "q"), ("end", end, number, "caller")]


class JudgingTest(unittest.TestCase):
    def check(self, findings, events, bills=(), pending=()):
        given = [list(events), TARIFF, list(bills), list(pending)]
        before = copy.deepcopy([given[0], given[2], given[3]])
        self.assertEqual(judge(*given), findings)
        self.assertEqual([given[0], given[2], given[3]], before)

    def test_nothing(self):
        self.check([], [])

    def test_right_bills(self):
        self.check([], WHOLE, [BILL])
        self.check([], WHOLE[:3], [], [1])
        self.check([], WHOLE[:2])
        self.check([], [BEGIN, END])

    def test_bill_that_is_left_out(self):
        self.check([("none", 1)], WHOLE)
        # The numbers of the unfinished ones do not matter for a call that is answered and has ended.
        self.check([("none", 1)], WHOLE, [], [1])
        self.check([], WHOLE, [BILL], [1])

    def test_other_parts(self):
        for part, other in [(1, "bob@x"), (2, "ann@x"), (3, 4), (4, 27), (5, 60), (5, 0)]:
            bill = (*BILL[:part], other, *BILL[part + 1:])
            self.check([("bill", 1)], WHOLE, [bill])

    def test_cost_is_that_of_the_tariff(self):
        for end, cost in [(5, 0), (6, 30), (15, 30), (16, 60), (25, 60), (26, 61), (105, 68)]:
            events = whole(1, end=end)
            self.check([], events, [(1, "ann@x", "bob@x", 5, end, cost)])
            self.check([("bill", 1)], events, [(1, "ann@x", "bob@x", 5, end, cost + 1)])

    def test_bills_of_calls_without_an_answer(self):
        for events in [[BEGIN], [BEGIN, RING], [BEGIN, END]]:
            self.check([("bill", 1)], events, [BILL])
            self.check([("bill", 1), ("pending", 1)], events, [BILL], [1])
            self.check([("pending", 1)], events, [], [1])

    def test_calls_that_have_not_ended(self):
        events = WHOLE[:3]
        self.check([("pending", 1)], events)
        self.check([("bill", 1), ("pending", 1)], events, [BILL])
        self.check([("bill", 1)], events, [BILL], [1])
        self.check([("pending", 1)], events, [], [2, 11])

    def test_doubled_bills(self):
        self.check([("twice", 1)], WHOLE, [BILL, BILL])
        self.check([("twice", 1), ("twice", 1)], WHOLE, [BILL, BILL, BILL])
        other = (1, "cat@x", "bob@x", 5, 26, 61)
        # The last one counts.
        self.check([("twice", 1)], WHOLE, [other, BILL])
        self.check([("twice", 1), ("bill", 1)], WHOLE, [BILL, other])
        self.check([("twice", 2), ("twice", 1)], WHOLE, [BILL, (2, *BILL[1:]), (2, *BILL[1:]), BILL])

    def test_bills_and_numbers_of_no_call(self):
        for number in [0, 2, 99]:
            other = (number, *BILL[1:])
            self.check([], WHOLE, [BILL, other], [number])
            self.check([("twice", number)], WHOLE, [other, BILL, other])
            self.check([], [], [other], [number])

    def test_events_that_cannot_stand(self):
        self.check([("event", 0), ("event", 3)], [RING, BEGIN, ANSWER, RING, END], [BILL])
        self.check([("event", 3), ("none", 1)], [*WHOLE[:3], ("end", 2, 1, "x"), END])
        # What they tell does not count.
        self.check([("event", 2)], [BEGIN, ANSWER, ("answer", 9, 1, "r"), END], [BILL])
        self.check([("event", 4)], [*WHOLE, ("end", 30, 1, "x")], [BILL])

    def test_order_of_the_findings(self):
        events = [("ring", 0, 9), *whole(1, 0, 0, 0), ("begin", 1, 2, "a@x", "b@x"), *whole(3, 2, 2, 9),
                  ("begin", 9, 4, "a@x", "b@x"), ("answer", 9, 4, "q"), ("answer", 9, 4, "q")]
        bills = [(4, "a@x", "b@x", 9, 9, 0), (2, "a@x", "b@x", 1, 1, 0), (2, "a@x", "b@x", 1, 1, 0),
                 (3, "ann@x", "bob@x", 2, 9, 31)]
        self.check([("event", 0), ("event", 10), ("twice", 2), ("none", 1), ("bill", 2), ("pending", 2), ("bill", 3),
                    ("bill", 4), ("pending", 4)], events, bills, [1, 2, 3])

    def test_more_than_nine_calls(self):
        events = [event for number in range(1, 13) for event in whole(number, 5, 5, 5)]
        self.check([("none", number) for number in range(1, 13)], events)

    def test_several_moves_do_not_matter(self):
        events = [*WHOLE[:3], ("move", 6, 1, 0, "cat@x"), ("moved", 7, 1, 0), ("turn", 8, 1, 1, "send"), END]
        self.check([], events, [BILL])

    def test_any_bills(self):
        """Compare with a reading that goes from finding to finding."""
        chance = random.Random(18)
        for _ in range(400):
            events, states = [], {}
            for number in range(1, chance.randint(1, 5)):
                states[number] = chance.choice(["begun", "answered", "refused", "ended"])
                rows = whole(number, 5, 5, 5)
                events += {"begun": rows[:1], "answered": rows[:2], "refused": rows[::2], "ended": rows}[states[number]]
            right = {number: (number, "ann@x", "bob@x", 5, 5, 0) for number in range(7)}
            bills = [right[chance.randrange(7)] for _ in range(chance.randint(0, 6))]
            bills = [chance.choice([bill, bill, (*bill[:5], 1)]) for bill in bills]
            pending = sorted(chance.sample(range(7), chance.randint(0, 4)))
            self.check(self.find(states, bills, pending), events, bills, pending)

    def find(self, states, bills, pending):
        numbers = [bill[0] for bill in bills]
        found = [("twice", number) for at, number in enumerate(numbers) if number in numbers[:at]]
        last = {bill[0]: bill for bill in bills}
        for number, state in states.items():
            if state == "ended":
                found += [("none", number)] if number not in last else []
                found += [("bill", number)] if number in last and last[number][5] != 0 else []
                continue
            found += [("bill", number)] if number in last else []
            is_wrong = {"begun": number in pending, "refused": number in pending, "answered": number not in pending}
            found += [("pending", number)] if is_wrong[state] else []
        return found

    def test_left_out_events(self):
        """Leave out any of the events: only calls that are told as answered and ended have bills."""
        for many in range(5):
            for events in itertools.combinations(WHOLE, many):
                begun, answered, ended = BEGIN in events, ANSWER in events, END in events
                found = [] if begun else [("event", at) for at in range(many)]
                if begun and not (answered and ended):
                    found += [("bill", 1)]
                if begun and answered and not ended:
                    found += [("pending", 1)]
                self.check(found, events, [BILL])
