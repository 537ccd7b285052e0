"""Bounds: after how many ticks silence comes and calls are settled (point 17)."""


def quiet_bound(config):
    """Return the ticks after which an exchange that no letter reaches has no legs."""
    return max(config.patience, config.check) + 100 * config.first + 4


def settle_bound(config, phones, slowest):
    """Return the ticks after which everything is over, from the tick on in which every user hangs up."""
    stations = [config, *phones]
    patience = max([station.patience for station in stations])
    check = max([station.check for station in stations])
    first = max([station.first for station in stations])
    return 8 * (slowest + 2) + 3 * patience + 2 * check + 320 * first
