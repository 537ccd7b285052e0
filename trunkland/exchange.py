"""The exchange (point 14)."""

from trunkland.connections import NO_USER, Connection
from trunkland.ledger import Ledger, recover
from trunkland.legs import NOT_NOW, YES
from trunkland.letters import write
from trunkland.places import Places
from trunkland.stations import Station, read_letter
from trunkland.words import split_address

# The sequence numbers of the CALLs behind a restart are above all those before it.
CALLS_OF_A_LIFE = 10000


class Exchange:
    """An exchange; it is made by `start` and `restart`."""

    def __init__(self, config, ledger, restarts):
        self.config = config
        self.places = Places(config.users, config.stations, config.longest)
        self.ledger = ledger
        self.events = []
        self.station = Station(f"x{restarts}n", config.first, config.check, CALLS_OF_A_LIFE * restarts)
        self._stations = list(config.stations)
        self._greatest_number = ledger.greatest()
        # The calls that have not ended, in their order.
        self._calls = []

    def receive(self, text, place, now):
        """Take a text that arrives from a place. Return what is sent."""
        letter = read_letter(text)
        if letter is None or place not in self._stations:
            return []
        leg = self.station.leg_for(letter, place)
        if leg is None:
            return self._receive_without_leg(letter, place, now)
        return leg.receive(letter, place, now) + self._treat_events(now)

    def hang_up(self, number, now):
        """End a call by the operator. Return what is sent."""
        sent = []
        for call in self._calls:
            if call.number == number:
                sent.extend(call.end("operator", NOT_NOW, now))
        self._forget_ended()
        return sent

    def tick(self, now):
        """Let the tick pass. Return what is sent."""
        sent = self.station.tick(now) + self._treat_events(now)
        for call in self._calls:
            sent.extend(call.lose_patience(self.config.patience, now))
        self._forget_ended()
        sent.extend(self._treat_events(now))
        if now % self.config.save == 0:
            self.ledger.journal.sync()
        self.station.forget_done()
        return sent

    def is_quiet(self):
        """Tell whether the exchange has no legs."""
        return self.station.is_empty()

    def _receive_without_leg(self, letter, place, now):
        if letter.code is not None or letter.verb == "KEEP":
            return []
        if letter.target_tag == "" and letter.verb == "SIGN":
            return self._take_sign(letter, place, now)
        if letter.target_tag == "" and letter.verb == "CALL":
            return self._take_call(letter, place, now)
        return self.station.deny(letter, place)

    def _take_sign(self, letter, place, now):
        user, host = split_address(letter.origin)
        if host != self.config.host or letter.stay is None:
            return self._reply_to_sign(letter, place, NOT_NOW)
        granted = self.places.sign(user, place, letter.seq, letter.stay, now)
        return self._reply_to_sign(letter, place, NO_USER if granted is None else YES, granted)

    def _reply_to_sign(self, letter, place, code, stay=None):
        return [(place, write(letter.reply(code, self.station.tag_of(0), stay=stay)))]

    def _take_call(self, letter, place, now):
        if not self.station.takes(letter, place):
            return []
        leg = self.station.call_in(letter.target, letter, place, letter.offer)
        self._greatest_number += 1
        call = Connection(self, self._greatest_number, leg, now)
        self._calls.append(call)
        if letter.offer is None or len(self._calls) > self.config.most_calls:
            sent = call.end("refused", NOT_NOW, now)
        else:
            sent = call.call_callee(letter.offer, now)
        self._forget_ended()
        return sent + self._treat_events(now)

    def _treat_events(self, now):
        """Treat the events of all legs, and those that follow from them, until there are none."""
        sent = []
        found = self._take_events()
        while found:
            for call, leg, event in found:
                sent.extend(call.treat(leg, event, now))
            found = self._take_events()
        self._forget_ended()
        return sent

    def _take_events(self):
        return [(call, leg, event) for call in self._calls for leg in call.legs() for event in leg.take_events()]

    def _forget_ended(self):
        self._calls = [call for call in self._calls if not call.has_ended]


def start(config):
    """Return a new exchange."""
    return Exchange(config, Ledger(config.tariff), 0)


def restart(config, text, now, restarts):
    """Return the exchange after a crash that left a text of the journal."""
    return Exchange(config, recover(config.tariff, text, now), restarts)
