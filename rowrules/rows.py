"""Rows led: stretches and rings, once and again and again."""

from rowrules.rules import places
from rowrules.words import check_at_least, check_word


# Whoever calls this has looked at the signs already: a ring that is led a thousand times is looked at once.
def lead(one, row):
    signs = one[0]
    table = one[2]
    short = places(one) - 1
    number = 0
    told = []
    for at, sign in enumerate(row):
        number = (number * signs + sign) % len(table)
        if at >= short:
            told.append(table[number])
    return told


def lead_ring(one, ring):
    many = len(ring)
    first = one[1] % many
    return lead(one, [ring[(first + k) % many] for k in range(many + places(one) - 1)])


def led(one, row):
    check_word(row, one[0])
    return lead(one, row)


def led_ring(one, ring):
    return after(one, ring)


def after(one, ring, times=1):
    check_at_least(ring, one[0], 1)
    come = list(ring)
    for done in range(times):
        come = lead_ring(one, come)
    return come


def comes_again(one, ring, most=64):
    check_at_least(ring, one[0], 1)
    come = ring
    seen = {tuple(come): 0}
    for times in range(1, most + 1):
        come = lead_ring(one, come)
        ahead = seen.setdefault(tuple(come), times)
        if ahead < times:
            return (ahead, times - ahead)
    return None
