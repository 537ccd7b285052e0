"""The network, and a world of an exchange and phones (point 16)."""

from trunkland.exchange import start


class Network:
    """A network that loses, doubles and delays letters, as the fates tell it."""

    def __init__(self, fates, slowest):
        self._fates = list(fates)
        self._span = slowest + 1
        self._sent = 0
        # For each tick the letters that arrive in it, in the order in which they were sent.
        self._arriving = {}

    def send(self, source, sent, now):
        """Take letters that a station has sent, as pairs of a place and a text."""
        for place, text in sent:
            for delay in self._delays(self._next_fate()):
                self._arriving.setdefault(now + 1 + delay, []).append((source, place, text))

    def take_arriving(self, now):
        """Return the letters that arrive in a tick, as tuples of the source, the place and the text."""
        return self._arriving.pop(now, [])

    def is_empty(self):
        """Tell whether nothing is on its way."""
        return not self._arriving

    def _next_fate(self):
        if not self._fates:
            return 0
        fate = self._fates[self._sent % len(self._fates)]
        self._sent += 1
        return fate

    def _delays(self, fate):
        """Return the delay of each copy of a letter with this fate."""
        number, kind = fate // 4, fate % 4
        if kind == 0:
            return [0]
        if kind == 1:
            return []
        if kind == 2:
            return [number % self._span]
        return [number % self._span, number // self._span % self._span]


class World:
    """An exchange, phones and a network, at tick 0."""

    def __init__(self, config, phones, fates, slowest):
        self.exchange = start(config)
        self.phones = list(phones)
        self.now = 0
        self._network = Network(fates, slowest)

    def step(self, commands):
        """Perform one tick with a list of commands."""
        now = self.now
        for command in commands:
            self._perform(command, now)
        for source, place, text in self._network.take_arriving(now):
            self._deliver(source, place, text, now)
        self._send(self._host(), self.exchange.tick(now))
        for phone in self.phones:
            self._send(phone.place, phone.tick(now))
        self.now += 1

    def is_quiet(self):
        """Tell whether nothing is on its way, and the exchange and all phones are quiet."""
        are_quiet = all([phone.is_quiet() for phone in self.phones])
        return are_quiet and self.exchange.is_quiet() and self._network.is_empty()

    def _host(self):
        return self.exchange.config.host

    def _send(self, source, sent):
        self._network.send(source, sent, self.now)

    def _perform(self, command, now):
        if command[0] == "operator":
            self._send(self._host(), self.exchange.hang_up(command[1], now))
        else:
            phone = self.phones[command[1]]
            self._send(phone.place, _tell_phone(phone, command, now))

    def _deliver(self, source, place, text, now):
        if place == self._host():
            self._send(place, self.exchange.receive(text, source, now))
            return
        for phone in self.phones:
            if phone.place == place:
                self._send(place, phone.receive(text, source, now))


def _tell_phone(phone, command, now):
    """Let the user of a phone do what a command says. Return what is sent."""
    match command:
        case ("dial", _, user):
            return phone.dial(user, now)
        case ("move", _, user):
            return phone.move(user, now)
        case ("sign", _, stay):
            return phone.sign(stay, now)
        case ("answer", _):
            return phone.answer(now)
        case ("hold", _):
            return phone.hold(now)
        case ("resume", _):
            return phone.resume(now)
    return phone.hang_up(now)
