"""When the towers of a road show signs: points [11] and [12].

T is told by the Facts, without going through the signs: it is a greatest one
of some terms, one for each TOWER from the one that is asked for on, each of
which grows by the PACE of the ROAD up to that TOWER.
"""

from towerline.errors import BadRoad, OutOfPlace
from towerline.kinds import is_integer, is_tuple, need_integer

MOST_TOWERS = 40
MOST_TIME = 1000
MOST_SIGN = 10 ** 30
MOST_MOMENT = 10 ** 30
MOST_MANY = 10 ** 30


def need_road(thing):
    """The thing itself, if it is a ROAD; else the number of the first wrong triple is told."""
    if not is_tuple(thing, 1, MOST_TOWERS):
        raise BadRoad(None)
    for number in range(len(thing)):
        if not is_triple(thing[number]):
            raise BadRoad(number)
    return thing


def is_triple(thing):
    """Whether a thing is one of the triples (SEE, HOLD, ANSWER) of a ROAD."""
    if not is_tuple(thing, 3, 3):
        return False
    see, hold, answer = thing
    return is_integer(see, 0, MOST_TIME) and is_integer(hold, 1, MOST_TIME) and is_integer(answer, 0, MOST_TIME)


def _need_tower(road, tower):
    """Refuse what is no number of a TOWER of a ROAD."""
    need_integer(tower, 0, len(road) - 1, "the tower")


def _rings(road):
    """The RINGS of all TOWERS of a ROAD but the last one."""
    return [road[at + 1][0] + road[at][2] for at in range(len(road) - 1)]


def _sums(road):
    """Three lists with, for each TOWER, the sum of SEES up to it, that of RINGS ahead of it, and the PACE up to it."""
    sees = [0]
    rings = [0]
    paces = [road[0][1]]
    for ring in _rings(road):
        see, hold, _ = road[len(sees)]
        sees.append(sees[-1] + see)
        rings.append(rings[-1] + ring)
        paces.append(max(paces[-1], hold, ring))
    return (sees, rings, paces)


def _moment_of(sums, tower, sign):
    """T, by the sums of a ROAD."""
    sees, rings, paces = sums
    last = min(len(sees) - 1, tower + sign)
    return sees[tower] + max([
        rings[at] - rings[tower] + (sign - at + tower) * paces[at]
        for at in range(tower, last + 1)
    ])


def when(road, tower, sign):
    """T: the moment at which a TOWER shows a sign."""
    need_road(road)
    _need_tower(road, tower)
    need_integer(sign, 0, MOST_SIGN, "the sign")
    return _moment_of(_sums(road), tower, sign)


def pace(road):
    """The PACE of a ROAD."""
    need_road(road)
    return _pace_of(road)


def _pace_of(road):
    """The PACE of what is a ROAD."""
    return max([hold for _, hold, _ in road] + _rings(road))


def lag(road):
    """The LAG of a ROAD."""
    need_road(road)
    sums = _sums(road)
    return max([_tower_lag(sums, tower) for tower in range(len(road))])


def _tower_lag(sums, tower):
    """The least sign from which on, on this TOWER, the next one is PACE later."""
    sees, rings, paces = sums
    late = _late_signs(rings[tower:], paces[tower:])
    # From this sign on there are all terms, so each step is no less than the one ahead.
    sign = len(sees) - 1 - tower
    if late > 0:
        return sign + late
    while sign > 0 and _moment_of(sums, tower, sign) - _moment_of(sums, tower, sign - 1) == paces[-1]:
        sign -= 1
    return sign


def _late_signs(rings, paces):
    """How many signs it takes, from the first one on of which there are all terms, until one with PACE is the greatest.

    These are the sums from the TOWER on that is asked for.
    """
    last = len(paces) - 1
    terms = [rings[at] + (last - at) * paces[at] for at in range(len(paces))]
    best = max([terms[at] for at in range(len(paces)) if paces[at] == paces[last]])
    late = 0
    for at in range(len(paces)):
        # A greater one than the best one with PACE grows by less, so that one gains on it.
        if terms[at] > best:
            gain = paces[last] - paces[at]
            late = max(late, (terms[at] - best + gain - 1) // gain)
    return late


def shown(road, tower, moment):
    """The number of the last sign that a TOWER shows at a moment, or None."""
    need_road(road)
    _need_tower(road, tower)
    need_integer(moment, 0, MOST_MOMENT, "the moment")
    sees, rings, paces = _sums(road)
    left = moment - sees[tower]
    if left < 0:
        return None
    number = left // paces[tower]
    for at in range(tower + 1, len(road)):
        # The term of a TOWER counts only from this sign on, so those ahead of it it never holds up.
        first = at - tower
        most = first + (left - rings[at] + rings[tower]) // paces[at]
        number = min(number, max(most, first - 1))
    return number


def like_when(triple, many, tower, sign):
    """T in a LIKE ROAD."""
    if not is_triple(triple):
        raise OutOfPlace("the triple is none of a road")
    need_integer(many, 1, MOST_MANY, "the number of towers")
    need_integer(tower, 0, many - 1, "the tower")
    need_integer(sign, 0, MOST_SIGN, "the sign")
    see, hold, answer = triple
    if many == 1:
        return sign * hold
    return tower * see + sign * max(hold, see + answer)


def slowest(road):
    """The ascending tuple of all (K, KIND): the HOLDS and RINGS that are the PACE."""
    need_road(road)
    most = _pace_of(road)
    holds = [(at, "hold") for at in range(len(road)) if road[at][1] == most]
    rings = _rings(road)
    return tuple(sorted(holds + [(at, "ring") for at in range(len(rings)) if rings[at] == most]))
