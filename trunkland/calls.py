"""The call model: what the events of an exchange tell of its calls (point 13)."""


class Told:
    """A call as the events have told it so far."""

    def __init__(self, begun, number, caller, callee):
        self.number = number
        self.caller = caller
        self.callee = callee
        self.begun = begun
        self.rang = None
        self.answered = None
        self.ended = None
        self.why = None
        self.modes = ["both", "both"]
        self.moves = 0

    def parts(self):
        """Return the call as point 13.3 tells it."""
        return (self.number, self.caller, self.callee, self.begun, self.rang, self.answered, self.ended, self.why,
                self.modes[0], self.modes[1], self.moves)

    def allows(self, event):
        """Tell whether an event of this call, other than its beginning, can stand now."""
        name = event[0]
        if self.ended is not None:
            return False
        if name == "ring":
            return self.rang is None and self.answered is None
        if name == "answer":
            return self.answered is None
        if name in ("turn", "move", "moved"):
            return self.answered is not None and event[3] in (0, 1)
        return name == "end"

    def take(self, event):
        """Take an event that can stand."""
        name, now = event[0], event[1]
        if name == "ring":
            self.rang = now
        elif name == "answer":
            self.answered = now
        elif name == "turn":
            self.modes[event[3]] = event[4]
        elif name == "moved":
            self.modes = ["both", "both"]
            self.moves += 1
        elif name == "end":
            self.ended = now
            self.why = event[3]


def tell(events):
    """Return the calls that events tell of, and the indexes of the events that cannot stand."""
    calls = []
    wrong = []
    latest = 0
    for index, event in enumerate(events):
        if event[1] >= latest and _stands(calls, event):
            latest = event[1]
            _take(calls, event)
        else:
            wrong.append(index)
    return ([call.parts() for call in calls], wrong)


def _stands(calls, event):
    number = event[2]
    if event[0] == "begin":
        return number == len(calls) + 1
    return 1 <= number <= len(calls) and calls[number - 1].allows(event)


def _take(calls, event):
    if event[0] == "begin":
        _, now, number, caller, callee = event
        calls.append(Told(now, number, caller, callee))
    else:
        calls[event[2] - 1].take(event)
