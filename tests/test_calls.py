"""Points 13.1 to 13.3: what the events of an exchange tell of its calls."""

import copy
import itertools
import random
import unittest

from trunkland.calls import tell

BEGIN = ("begin", 3, 1, "ann@x", "bob@x")
RING = ("ring", 4, 1)
ANSWER = ("answer", 5, 1, "q")
TURN = ("turn", 6, 1, 1, "send")
MOVE = ("move", 7, 1, 0, "cat@x")
MOVED = ("moved", 8, 1, 0)
END = ("end", 9, 1, "hung")
WHOLE = [BEGIN, RING, ANSWER, TURN, MOVE, MOVED, END]


def at(event, now):
    return (event[0], now, *event[2:])


class CallsTest(unittest.TestCase):
    def check(self, events, calls, wrong=()):
        before = copy.deepcopy(events)
        self.assertEqual(tell(events), (calls, list(wrong)))
        self.assertIs(type(tell(events)), tuple)
        self.assertEqual(events, before)

    def call(self, begun=3, rang=None, answered=None, ended=None, why=None, modes=("both", "both"), moves=0):
        return (1, "ann@x", "bob@x", begun, rang, answered, ended, why, *modes, moves)

    def test_nothing(self):
        self.check([], [])

    def test_example(self):
        events = [BEGIN, ("ring", 5, 1), ("answer", 9, 1, "q"), ("ring", 9, 1), ("end", 20, 1, "hung")]
        self.check(events, [self.call(3, 5, 9, 20, "hung")], [3])

    def test_event_by_event(self):
        for many, call in enumerate([
            self.call(), self.call(rang=4), self.call(rang=4, answered=5),
            self.call(rang=4, answered=5, modes=("both", "send")), self.call(rang=4, answered=5, modes=("both", "send")),
            self.call(rang=4, answered=5, moves=1), self.call(rang=4, answered=5, moves=1, ended=9, why="hung"),
        ]):
            self.check(WHOLE[:many + 1], [call])

    def test_answer_without_ring_and_end_without_answer(self):
        self.check([BEGIN, ANSWER], [self.call(answered=5)])
        self.check([BEGIN, at(END, 3)], [self.call(ended=3, why="hung")])
        self.check([BEGIN, RING, END], [self.call(rang=4, ended=9, why="hung")])

    def test_all_in_one_tick(self):
        self.check([at(event, 0) for event in WHOLE], [self.call(0, 0, 0, 0, "hung", moves=1)])

    def test_second_ring_and_answer(self):
        self.check([BEGIN, RING, at(RING, 5)], [self.call(rang=4)], [2])
        self.check([BEGIN, ANSWER, ("answer", 6, 1, "r")], [self.call(answered=5)], [2])
        self.check([BEGIN, ANSWER, at(RING, 5)], [self.call(answered=5)], [2])
        self.check([BEGIN, ANSWER, at(RING, 7), at(ANSWER, 8)], [self.call(answered=5)], [2, 3])

    def test_turns_and_moves_before_the_answer(self):
        for event in [TURN, MOVE, MOVED]:
            self.check([BEGIN, event, at(RING, 9)], [self.call(rang=9)], [1])
            self.check([BEGIN, RING, event], [self.call(rang=4)], [2])

    def test_sides(self):
        for side in [-1, 2, 3, 100]:
            for event in [TURN, MOVE, MOVED]:
                wrong = (*event[:3], side, *event[4:])
                self.check([BEGIN, ANSWER, wrong], [self.call(answered=5)], [2])
        for side in [0, 1]:
            modes = ("send", "both") if side == 0 else ("both", "send")
            self.check([BEGIN, ANSWER, ("turn", 6, 1, side, "send")], [self.call(answered=5, modes=modes)])
            self.check([BEGIN, ANSWER, ("move", 6, 1, side, "cat@x")], [self.call(answered=5)])
            self.check([BEGIN, ANSWER, ("moved", 6, 1, side)], [self.call(answered=5, moves=1)])

    def test_modes(self):
        events = [BEGIN, ANSWER, ("turn", 6, 1, 0, "none"), ("turn", 6, 1, 1, "take"), ("turn", 7, 1, 0, "send")]
        self.check(events, [self.call(answered=5, modes=("send", "take"))])
        for side in [0, 1]:
            moved = [*events, ("moved", 8, 1, side)]
            self.check(moved, [self.call(answered=5, moves=1)])
            self.check([*moved, ("turn", 9, 1, 1, "none"), ("moved", 9, 1, 0), ("turn", 9, 1, 0, "take")],
                       [self.call(answered=5, modes=("take", "both"), moves=2)])

    def test_nothing_behind_the_end(self):
        for event in WHOLE[1:]:
            self.check([BEGIN, RING, ANSWER, at(END, 6), at(event, 9)],
                       [self.call(rang=4, answered=5, ended=6, why="hung")], [4])
            self.check([BEGIN, at(END, 3), at(event, 9)], [self.call(ended=3, why="hung")], [2])

    def test_numbers_that_do_not_exist(self):
        for number in [0, -1, 2, 3, 99]:
            for event in WHOLE[1:]:
                self.check([BEGIN, RING, ANSWER, ("end" if event is END else event[0], 9, number, *event[3:])],
                           [self.call(rang=4, answered=5)], [3])
        for event in WHOLE[1:]:
            self.check([event, BEGIN], [self.call()], [0])

    def test_begin_with_a_wrong_number(self):
        for number in [0, -1, 1, 3, 9]:
            self.check([BEGIN, ("begin", 4, number, "cat@x", "dan@x")], [self.call()], [1])
        for number in [0, 2, 9]:
            self.check([("begin", 4, number, "cat@x", "dan@x"), BEGIN], [self.call()], [0])

    def test_several_calls(self):
        second = ("begin", 3, 2, "cat@y", "dan@x")
        events = [BEGIN, second, ("answer", 4, 2, "p"), RING, ("turn", 5, 2, 1, "none"), at(ANSWER, 6),
                  ("end", 7, 1, "caller"), ("begin", 7, 3, "ann@x", "ann@x"), ("end", 8, 2, "callee"), ("ring", 8, 3)]
        told = [self.call(rang=4, answered=6, ended=7, why="caller"),
                (2, "cat@y", "dan@x", 3, None, 4, 8, "callee", "both", "none", 0),
                (3, "ann@x", "ann@x", 7, 8, None, None, None, "both", "both", 0)]
        self.check(events, told)
        # The calls are told in the order of their numbers, whatever happens to them first.
        self.check(events[:2], [self.call(), (2, "cat@y", "dan@x", 3, None, None, None, None, "both", "both", 0)])

    def test_ticks_that_go_back(self):
        self.check([BEGIN, at(RING, 2)], [self.call()], [1])
        self.check([BEGIN, at(RING, 3)], [self.call(rang=3)])
        second = ("begin", 8, 2, "cat@x", "dan@x")
        other = (2, "cat@x", "dan@x", 8, None, None, None, None, "both", "both", 0)
        # The ticks of all calls count together.
        self.check([BEGIN, second, at(RING, 7), at(RING, 8)], [self.call(rang=8), other], [2])
        self.check([BEGIN, ("begin", 2, 2, "cat@x", "dan@x"), second], [self.call(), other], [1])

    def test_ticks_of_events_that_cannot_stand_do_not_count(self):
        self.check([BEGIN, ("ring", 90, 2), RING], [self.call(rang=4)], [1])
        self.check([BEGIN, ("turn", 90, 1, 0, "none"), RING, at(ANSWER, 3), ANSWER], [self.call(rang=4, answered=5)],
                   [1, 3])
        # But those before an event that cannot stand do, also if it lies behind them.
        self.check([BEGIN, at(ANSWER, 8), at(RING, 9), at(TURN, 7), at(TURN, 8)],
                   [self.call(answered=8, modes=("both", "send"))], [2, 3])

    def test_events_left_out(self):
        """Leave out, double or exchange events of a whole call: compare with a plain reading of point 13.2."""
        for many in range(len(WHOLE) + 1):
            for chosen in itertools.combinations(WHOLE, many):
                self.compare(list(chosen))
        for first, second in itertools.permutations(range(len(WHOLE)), 2):
            events = list(WHOLE)
            events[first], events[second] = events[second], events[first]
            self.compare(events)
            self.compare([at(event, 9) for event in events])

    def test_random_events(self):
        chance = random.Random(13)
        for _ in range(400):
            events, now = [], 0
            for _ in range(chance.randint(0, 25)):
                now = max(0, now + chance.choice([0, 0, 0, 1, 1, -1]))
                event = chance.choice(WHOLE + [BEGIN, ANSWER])
                number = chance.choice([1, 1, 2, 2, 3])
                event = (event[0], now, number, *event[3:])
                if event[0] in ("turn", "move", "moved"):
                    event = (*event[:3], chance.choice([0, 1, 0, 1, 2]), *event[4:])
                events.append(event)
            self.compare(events)

    def compare(self, events):
        """Compare with a reading that looks at all events before each one that could stand."""
        stood, wrong = [], []
        for index, event in enumerate(events):
            mine = [one[0] for one in stood if one[2] == event[2]]
            could = [] if event[0] == "begin" else ["begin" in mine, "end" not in mine]
            if event[0] == "begin":
                could.append(event[2] == 1 + len([one for one in stood if one[0] == "begin"]))
            if event[0] == "ring":
                could += ["ring" not in mine, "answer" not in mine]
            if event[0] == "answer":
                could.append("answer" not in mine)
            if event[0] in ("turn", "move", "moved"):
                could += ["answer" in mine, event[3] in [0, 1]]
            could.append(all([one[1] <= event[1] for one in stood]))
            if all(could):
                stood.append(event)
            else:
                wrong.append(index)
        calls = [self.told(one, [other for other in stood if other[2] == one[2]]) for one in stood if one[0] == "begin"]
        self.check(events, calls, wrong)

    def told(self, begin, mine):
        ticks = {event[0]: event[1] for event in mine}
        last_move = max([k for k, event in enumerate(mine) if event[0] == "moved"], default=0)
        modes = {event[3]: event[4] for event in mine[last_move:] if event[0] == "turn"}
        why = [event[3] for event in mine if event[0] == "end"]
        return (begin[2], begin[3], begin[4], begin[1], ticks.get("ring"), ticks.get("answer"), ticks.get("end"),
                why[0] if why else None, modes.get(0, "both"), modes.get(1, "both"),
                len([event for event in mine if event[0] == "moved"]))

    def test_whys_are_any_strings(self):
        for why in ["", "caller", "any text"]:
            self.check([BEGIN, ("end", 4, 1, why)], [self.call(ended=4, why=why)])
