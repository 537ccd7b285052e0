"""The places at which users have signed on (point 8)."""


class Places:
    """The bindings of users to stations; there are none at first."""

    def __init__(self, users, stations, longest):
        self._users = list(users)
        self._stations = list(stations)
        self._longest = longest
        # For each user and place: the greatest sequence number, and the first tick without the binding.
        self._seqs = {}
        self._ends = {}

    def sign(self, user, place, seq, stay, now):
        """Bind a user to a place. Return the granted stay, or None if one of them is unknown."""
        if user not in self._users or place not in self._stations:
            return None
        granted = min(stay, self._longest)
        key = (user, place)
        if seq > self._seqs.get(key, -1):
            self._seqs[key] = seq
            self._ends[key] = now + granted
        return granted

    def of(self, user, now):
        """Return the places of a user in a tick, in the order of the stations."""
        return [place for place in self._stations if self._ends.get((user, place), 0) > now]

    def bindings(self, now):
        """Return the user, place and end of each binding in a tick, in the order of users and stations."""
        return [(user, place, self._ends[user, place]) for user in self._users for place in self.of(user, now)]
