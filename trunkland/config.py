"""The settings of an exchange (point 12)."""

from trunkland.errors import ConfigError
from trunkland.words import is_name

MOST_NAMES = 8


class Config:
    """The settings of an exchange."""

    def __init__(self, *, host, users, stations, tariff, first=2, patience=100, check=50, longest=500,
                 most_calls=8, save=8):
        self.host = host
        self.users = list(users)
        self.stations = list(stations)
        self.tariff = tariff
        self.first = first
        self.patience = patience
        self.check = check
        self.longest = longest
        self.most_calls = most_calls
        self.save = save
        for setting, is_right in _judged(self):
            if not is_right:
                raise ConfigError(setting)


def _judged(config):
    """Return each setting that is checked, in the order of point 12.1, with True if it is right."""
    return [
        ("host", is_name(config.host)),
        ("users", _are_names(config.users)),
        ("stations", _are_names(config.stations) and config.host not in config.stations),
        ("first", 1 <= config.first <= 20),
        ("patience", 1 <= config.patience <= 1000),
        ("check", 1 <= config.check <= 1000),
        ("longest", 1 <= config.longest <= 9999),
        ("most_calls", 1 <= config.most_calls <= 50),
        ("save", 1 <= config.save <= 64),
    ]


def _are_names(words):
    if not 1 <= len(words) <= MOST_NAMES or len(set(words)) < len(words):
        return False
    return all([is_name(word) for word in words])
