"""Stations: the legs of the exchange or of a phone, and the letters that belong to them (points 14.1, 14.2, 15.1)."""

from trunkland.errors import LetterError
from trunkland.legs import NO_CALL, Leg
from trunkland.letters import read, write


class Station:
    """The legs of a station; it has none at first."""

    def __init__(self, prefix, first, check, seq):
        self._prefix = prefix
        self._first = first
        self._check = check
        # The sequence number of the latest CALL that went out.
        self._seq = seq
        self._made = 0
        # The legs by their tags, in the order of the tags' numbers.
        self._legs = {}
        # The greatest sequence number of the CALLs that began a leg, for each place.
        self._greatest_taken = {}

    def tag_of(self, number):
        """Return the tag with a number."""
        return f"{self._prefix}{number}"

    def call_out(self, own, other, place, able):
        """Return a new leg for a CALL to a place; the caller of this lets it call out."""
        tag = self._next_tag()
        leg = self._keep(Leg(tag=tag, call=f"{tag}c", own=own, other=other, place=place, able=able,
                             first=self._first, check=self._check, seq=self._seq))
        self._seq += 1
        return leg

    def call_in(self, own, letter, place, able):
        """Return a new leg that has taken a CALL from a place."""
        leg = self._keep(Leg(tag=self._next_tag(), call=letter.call, own=own, other=letter.origin, place=place,
                             able=able, first=self._first, check=self._check))
        leg.call_in(letter)
        return leg

    def leg_for(self, letter, place):
        """Return the leg to which a letter from a place belongs, or None."""
        if letter.code is not None:
            return self._known(letter.origin_tag, letter, place)
        if letter.target_tag != "":
            leg = self._known(letter.target_tag, letter, place)
            is_other_side = leg is not None and leg.other_tag in ("", letter.origin_tag)
            return leg if is_other_side else None
        return self._find_called(letter, place) if letter.verb in ("CALL", "STOP") else None

    def takes(self, letter, place):
        """Take the number of a CALL that belongs to no leg. Return False if the CALL comes too late to begin one."""
        if letter.seq <= self._greatest_taken.get(place, -1):
            return False
        self._greatest_taken[place] = letter.seq
        return True

    def deny(self, letter, place):
        """Reply to a request that belongs to no leg."""
        tag = letter.target_tag or self.tag_of(0)
        return [(place, write(letter.reply(NO_CALL, tag)))]

    def tick(self, now):
        """Let the legs pass the tick."""
        sent = []
        for leg in self._legs.values():
            sent.extend(leg.tick(now))
        return sent

    def forget_done(self):
        """Forget the legs that are done."""
        self._legs = {tag: leg for tag, leg in self._legs.items() if not leg.is_done()}

    def is_empty(self):
        """Tell whether there are no legs."""
        return not self._legs

    def _next_tag(self):
        self._made += 1
        return self.tag_of(self._made)

    def _keep(self, leg):
        self._legs[leg.tag] = leg
        return leg

    def _known(self, tag, letter, place):
        leg = self._legs.get(tag)
        if leg is None or leg.place != place or leg.call != letter.call:
            return None
        return leg

    def _find_called(self, letter, place):
        for leg in self._legs.values():
            if leg.took_call and (leg.call, leg.other_tag, leg.place) == (letter.call, letter.origin_tag, place):
                return leg
        return None


def read_letter(text):
    """Return the letter of a text, or None if the text is not a letter."""
    try:
        return read(text)
    except LetterError:
        return None
