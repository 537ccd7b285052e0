"""Points 17.1 and 17.2: the bounds."""

import unittest

from exchange_help import ABLE, make_config

from trunkland.bounds import quiet_bound, settle_bound
from trunkland.phones import Phone


def phone(**more):
    return Phone(place="p", user="ann", host="x", able=ABLE, **more)


class BoundsTest(unittest.TestCase):
    def test_quiet_bound(self):
        for patience, check, first, bound in [(100, 50, 2, 304), (50, 100, 2, 304), (7, 7, 1, 111), (1, 1000, 20, 3004),
                                              (1000, 1, 20, 3004), (1, 1, 1, 105)]:
            self.assertEqual(quiet_bound(make_config(patience=patience, check=check, first=first)), bound)

    def test_other_settings_do_not_matter(self):
        self.assertEqual(quiet_bound(make_config(longest=9999, most_calls=1, save=64)), 304)
        config = make_config(longest=9999, most_calls=1, save=64)
        self.assertEqual(settle_bound(config, [phone(auto=900)], 0), 16 + 300 + 100 + 640)

    def test_settle_bound(self):
        for slowest, bound in [(0, 16), (1, 24), (7, 72), (50, 416)]:
            self.assertEqual(settle_bound(make_config(), [phone()], slowest), bound + 300 + 100 + 640)

    def test_no_phones(self):
        self.assertEqual(settle_bound(make_config(patience=3, check=4, first=5), [], 2), 32 + 9 + 8 + 1600)

    def test_greatest_at_the_exchange(self):
        config = make_config(patience=500, check=600, first=15)
        self.assertEqual(settle_bound(config, [phone(), phone(patience=499, check=599, first=14)], 0),
                         16 + 1500 + 1200 + 4800)

    def test_greatest_at_different_phones(self):
        config = make_config(patience=5, check=6, first=1)
        phones = [phone(patience=7, check=9, first=2), phone(patience=11, check=8, first=3),
                  phone(patience=10, check=7, first=4)]
        for order in [phones, phones[::-1]]:
            self.assertEqual(settle_bound(config, order, 3), 40 + 33 + 18 + 1280)
        self.assertEqual(settle_bound(config, phones[:1], 3), 40 + 21 + 18 + 640)

    def test_phones_stay_as_they_were(self):
        phones = [phone(patience=7)]
        settle_bound(make_config(), phones, 3)
        self.assertEqual(len(phones), 1)
        self.assertEqual(phones[0].events, [])
