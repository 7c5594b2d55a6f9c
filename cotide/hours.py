"""Clocks: the steps between hours, and how often hours go round."""

from cotide.errors import BadClock, BadHour

LEAST_HOURS = 3
MOST_HOURS = 15


def is_clock(clock):
    """Whether a clock can have so many hours."""
    return LEAST_HOURS <= clock <= MOST_HOURS and clock % 2 == 1


def need_clock(clock):
    """Refuse what is no clock."""
    if not is_clock(clock):
        raise BadClock("a clock has an odd number of hours, 3 to 15")


def need_hours(clock, hours):
    """Refuse hours that the clock has not."""
    for hour in hours:
        if not 0 <= hour < clock:
            raise BadHour("an hour is a number from 0 to below the clock's hours")


def nearest_step(clock, one, other):
    """The step between two hours that are known to be good."""
    half = clock // 2
    return (other - one + half) % clock - half


def step(clock, one, other):
    """The number nearest to nought by which one hour becomes the other."""
    need_clock(clock)
    need_hours(clock, [one, other])
    return nearest_step(clock, one, other)


def after(clock, hour, by=1):
    """The hour so many hours later, or earlier where by is below nought."""
    need_clock(clock)
    need_hours(clock, [hour])
    return (hour + by) % clock


def rounds(clock, hours):
    """How often the hours, taken as a ring, go round the clock."""
    need_clock(clock)
    need_hours(clock, hours)
    total = sum([nearest_step(clock, hours[at - 1], hour) for at, hour in enumerate(hours)])
    # The steps lead back to the first hour, so nothing is left over here.
    return total // clock
