"""Points 9.1 and 9.2: tariffs."""

import random
import unittest

from trunkland.errors import ConfigError, TrunklandError
from trunkland.tariffs import Tariff

BAND = (5, 7)


class RangesTest(unittest.TestCase):
    def check_wrong(self, setting, *parts):
        with self.assertRaises(ConfigError) as caught:
            Tariff(*parts)
        self.assertEqual(caught.exception.setting, setting)
        self.assertIsInstance(caught.exception, TrunklandError)

    def test_ends_of_the_ranges(self):
        for unit, bands, last in [(1, [], 0), (10000, [], 10000), (1, [(1, 0)], 0), (1, [(10000, 10000)], 0),
                                  (1, [(1, 10000)] * 8, 1), (1, [BAND] * 8, 1), (1, [(10000, 0)], 1)]:
            tariff = Tariff(unit, bands, last)
            self.assertEqual([tariff.unit, tariff.bands, tariff.last], [unit, bands, last])

    def test_unit(self):
        for unit in [0, -1, 10001, 99999]:
            self.check_wrong("unit", unit, [], 1)

    def test_bands(self):
        for wrong in [(0, 7), (-1, 7), (10001, 7), (5, -1), (5, 10001), (0, 10001)]:
            for bands in [[wrong], [BAND, wrong], [wrong, BAND], [BAND] * 7 + [wrong], [BAND, wrong, BAND]]:
                self.check_wrong("bands", 1, bands, 1)
        for many in [9, 10, 50]:
            self.check_wrong("bands", 1, [BAND] * many, 1)

    def test_last(self):
        for last in [-1, 10001]:
            self.check_wrong("last", 1, [], last)
            self.check_wrong("last", 1, [BAND] * 8, last)

    def test_first_wrong_part_is_named(self):
        self.check_wrong("unit", 0, [(0, 0)], -1)
        self.check_wrong("unit", 10001, [BAND] * 9, 1)
        self.check_wrong("unit", 0, [], -1)
        self.check_wrong("bands", 1, [(0, 0)], -1)
        self.check_wrong("bands", 1, [BAND] * 9, 10001)


class CostTest(unittest.TestCase):
    def test_units(self):
        for unit in [1, 2, 7, 10, 9999, 10000]:
            tariff = Tariff(unit, [BAND], 1)
            self.assertEqual(tariff.units(0), 0)
            for many in [1, 2, 3, 10, 1000]:
                self.assertEqual([tariff.units(many * unit), tariff.units(many * unit + 1),
                                  tariff.units((many - 1) * unit + 1)], [many, many + 1, many])

    def test_without_bands(self):
        tariff = Tariff(10, [], 3)
        self.assertEqual([tariff.cost(span) for span in [0, 1, 9, 10, 11, 20, 21, 1000]], [0, 3, 3, 3, 6, 6, 9, 300])

    def test_ends_of_bands(self):
        tariff = Tariff(10, [(2, 100), (1, 10), (3, 0)], 1)
        spans = {0: 0, 1: 100, 10: 100, 11: 200, 20: 200, 21: 210, 30: 210, 31: 210, 59: 210, 60: 210, 61: 211,
                 70: 211, 71: 212, 160: 220}
        for span, cost in spans.items():
            self.assertEqual(tariff.cost(span), cost, span)

    def test_kinds(self):
        tariff = Tariff(10, [(2, 100)], 1)
        self.assertEqual([type(tariff.units(5)), type(tariff.cost(5)), type(tariff.bands)], [int, int, list])

    def test_each_unit_counted_by_itself(self):
        chance = random.Random(10)
        for _ in range(200):
            unit = chance.choice([1, 2, 3, 10, 600, 10000])
            bands = [(chance.randint(1, 6), chance.choice([0, 1, 10000, chance.randint(0, 99)]))
                     for _ in range(chance.randint(0, 8))]
            last = chance.choice([0, 10000, chance.randint(0, 99)])
            prices = [price for many, price in bands for _ in range(many)] + [last] * 20
            tariff = Tariff(unit, bands, last)
            before = 0
            for units in range(len(prices) + 1):
                for span in {max(0, (units - 1) * unit + 1), max(0, units * unit - 1), units * unit}:
                    if (span + unit - 1) // unit == units:
                        self.assertEqual(tariff.units(span), units)
                        self.assertEqual(tariff.cost(span), sum(prices[:units]))
                self.assertLessEqual(before, tariff.cost(units * unit))
                before = tariff.cost(units * unit)

    def test_a_longer_span_never_costs_less(self):
        tariff = Tariff(3, [(2, 50), (4, 0), (1, 10000)], 2)
        costs = [tariff.cost(span) for span in range(200)]
        self.assertEqual(costs, sorted(costs))


class SharedTest(unittest.TestCase):
    def test_bands_that_are_changed_afterwards(self):
        bands = [(1, 30), (2, 5)]
        tariff = Tariff(10, bands, 1)
        bands.append((1, 1))
        bands[0] = (9, 9)
        self.assertEqual(tariff.bands, [(1, 30), (2, 5)])
        self.assertEqual([tariff.cost(10), tariff.cost(50)], [30, 42])

    def test_bands_that_are_given_are_not_changed(self):
        bands = [(1, 30), (2, 5)]
        Tariff(10, bands, 1).cost(100)
        self.assertEqual(bands, [(1, 30), (2, 5)])


class ExampleTest(unittest.TestCase):
    def test_example(self):
        tariff = Tariff(10, [(1, 30), (2, 5)], 1)
        self.assertEqual([tariff.cost(span) for span in [0, 1, 10, 11, 30, 31]], [0, 30, 30, 35, 40, 41])
