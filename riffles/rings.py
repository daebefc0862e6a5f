"""The rings of a move, its period, and a move done many times."""

from riffles.checks import check_cards, check_order, is_number
from riffles.errors import BadNumber
from riffles.moves import check_move


def rings(move, many):
    check_move(move)
    check_cards(many)
    goes_to = targets(move.sources(many))
    seen = {}
    found = []
    for place in range(many):
        if place not in seen:
            ring = ring_from(goes_to, place)
            for member in ring:
                seen[member] = True
            found.append(ring)
    return found


# The least number of times that takes every ring round whole: the least common multiple.
def period(move, many):
    times = 1
    for ring in rings(move, many):
        times = times * len(ring) // common_divisor(times, len(ring))
    return times


# Each ring is turned on by as much at once, so that even 10 ** 18 times cost no more than one.
def repeated(move, order, times):
    check_move(move)
    check_order(order)
    if not is_number(times, 0, 10 ** 18):
        raise BadNumber("a count of times is a number from 0 to 10 ** 18")
    after = list(order)
    for ring in rings(move, len(order)):
        for step, place in enumerate(ring):
            after[ring[(step + times) % len(ring)]] = order[place]
    return after


# A ring follows the cards, so it asks where each goes to, not where it comes from.
def targets(sources):
    places = list(sources)
    for place, source in enumerate(sources):
        places[source] = place
    return places


def ring_from(goes_to, start):
    ring = [start]
    place = goes_to[start]
    while place != start:
        ring.append(place)
        place = goes_to[place]
    return ring


def common_divisor(one, other):
    while other != 0:
        rest = one % other
        one = other
        other = rest
    return one
