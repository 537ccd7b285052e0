"""Timing: when a letter that waits for a reply is sent again, and when it is given up (point 0.4)."""

GREATEST_GAP = 8
LIMIT = 32


class Wait:
    """A wait that begins in the tick `now`, at a station with this first gap."""

    def __init__(self, now, first):
        self._began = now
        self._first = first
        self._gap = first
        self._due = now + first

    def repeats(self, now):
        """Let the tick pass. Return True if the letter is sent again in it."""
        if now < self._due:
            return False
        self._gap = min(2 * self._gap, GREATEST_GAP * self._first)
        self._due = now + self._gap
        return True

    def is_up(self, now):
        """Tell whether the limit has passed."""
        return now - self._began >= LIMIT * self._first
