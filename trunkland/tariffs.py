"""Tariffs: the price of a span of ticks (point 9)."""

from trunkland.errors import ConfigError

GREATEST_UNIT = 10000
GREATEST_PRICE = 10000
MOST_BANDS = 8


class Tariff:
    """A tariff with a unit in ticks, bands of units and their price, and a price for all further units."""

    def __init__(self, unit, bands, last):
        if not _is_unit(unit):
            raise ConfigError("unit")
        if not _are_bands(bands):
            raise ConfigError("bands")
        if not _is_price(last):
            raise ConfigError("last")
        self.unit = unit
        self.bands = [tuple(band) for band in bands]
        self.last = last

    def units(self, span):
        """Return the number of units that are needed to hold a span."""
        return (span + self.unit - 1) // self.unit

    def cost(self, span):
        """Return the price of a span."""
        left = self.units(span)
        total = 0
        for many, price in self.bands:
            taken = min(left, many)
            total += taken * price
            left -= taken
        return total + left * self.last


def _is_unit(number):
    return 1 <= number <= GREATEST_UNIT


def _is_price(number):
    return 0 <= number <= GREATEST_PRICE


def _are_bands(bands):
    # A band's number of units has the same range as the unit of a tariff.
    return len(bands) <= MOST_BANDS and all([_is_unit(many) and _is_price(price) for many, price in bands])
