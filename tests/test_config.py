"""Points 12.1 and 12.2: the settings of an exchange."""

import unittest

from trunkland.config import Config
from trunkland.errors import ConfigError
from trunkland.tariffs import Tariff

TARIFF = Tariff(10, [], 1)
RIGHT = {"host": "x", "users": ["ann", "bob"], "stations": ["p", "q"], "tariff": TARIFF}
# The greatest value of each number; the least one is 1.
RANGES = {"first": 20, "patience": 1000, "check": 1000, "longest": 9999, "most_calls": 50, "save": 64}
ORDER = ["host", "users", "stations", *RANGES]
NAMES = ["a", "b2", "c", "d", "e", "f", "g", "h" * 16, "i"]
# A wrong value of each setting.
WRONG = {"host": "X", "users": [], "stations": ["p", "x"], **{name: most + 1 for name, most in RANGES.items()}}


def make(**more):
    return Config(**{**RIGHT, **more})


class ConfigTest(unittest.TestCase):
    def check_wrong(self, setting, **more):
        with self.assertRaises(ConfigError) as caught:
            make(**more)
        self.assertEqual(caught.exception.setting, setting, more)

    def test_defaults(self):
        config = make()
        self.assertEqual([config.host, config.users, config.stations], ["x", ["ann", "bob"], ["p", "q"]])
        self.assertIs(config.tariff, TARIFF)
        self.assertEqual([config.first, config.patience, config.check, config.longest, config.most_calls, config.save],
                         [2, 100, 50, 500, 8, 8])

    def test_fields(self):
        config = make(first=3, patience=4, check=5, longest=6, most_calls=7, save=8)
        self.assertEqual([getattr(config, name) for name in RANGES], [3, 4, 5, 6, 7, 8])

    def test_numbers_in_their_ranges(self):
        for name, most in RANGES.items():
            for number in [1, 2, most // 2, most - 1, most]:
                self.assertEqual(getattr(make(**{name: number}), name), number)

    def test_numbers_beyond_their_ranges(self):
        for name, most in RANGES.items():
            for number in [0, -1, most + 1, most + 1000, 10 ** 12]:
                self.check_wrong(name, **{name: number})

    def test_host(self):
        for host in ["x", "y9", "h" * 16]:
            self.assertEqual(make(host=host).host, host)
        for host in ["", "9x", "X", "a b", "a@b", "h" * 17, "x\n"]:
            self.check_wrong("host", host=host)

    def test_lists_of_names(self):
        for name in ["users", "stations"]:
            for many in range(1, 9):
                self.assertEqual(getattr(make(**{name: NAMES[:many]}), name), NAMES[:many])
            for words in [[], NAMES, ["a", "a"], ["a", "b", "a"], ["a", ""], ["A"], ["a", "1b"], ["h" * 17], ["a b"]]:
                self.check_wrong(name, **{name: words})

    def test_host_is_no_station_but_may_be_a_user(self):
        self.check_wrong("stations", stations=["x"])
        self.check_wrong("stations", stations=["p", "q", "x"])
        self.check_wrong("stations", host="q")
        self.assertEqual(make(users=["x"]).users, ["x"])
        self.assertEqual(make(users=["p"], stations=["p"]).stations, ["p"])

    def test_first_wrong_setting_is_named(self):
        for at, name in enumerate(ORDER):
            self.check_wrong(name, **{name: WRONG[name]})
            for later in ORDER[at + 1:]:
                self.check_wrong(name, **{later: WRONG[later], name: WRONG[name]})

    def test_tariff_is_not_checked(self):
        tariff = Tariff(10, [], 1)
        tariff.unit = 0
        self.assertIs(make(tariff=tariff).tariff, tariff)

    def test_lists_changed_afterwards(self):
        users, stations = ["ann"], ["p"]
        config = make(users=users, stations=stations)
        users.append("bob")
        stations.clear()
        self.assertEqual([config.users, config.stations], [["ann"], ["p"]])

    def test_lists_are_not_changed(self):
        users, stations = ["bob", "ann"], ["q", "p"]
        make(users=users, stations=stations)
        self.assertEqual([users, stations], [["bob", "ann"], ["q", "p"]])

    def test_settings_by_keyword_only(self):
        with self.assertRaises(TypeError):
            Config("x", ["ann"], ["p"], TARIFF)
