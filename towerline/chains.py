"""Live chains, to which signs are given one by one: point [14]."""

from towerline.errors import Nothing, OutOfPlace
from towerline.kinds import is_whole, need_integer
from towerline.times import need_road

MOST_LETTER = 10
MOST_MOMENTS = 10 ** 9
# Things of these kinds can't be called; of others this can't be told without calling them.
UNCALLED = (
    "bool", "bytearray", "bytes", "complex", "dict", "ellipsis", "float", "frozenset", "int", "list", "object",
    "range", "set", "str", "tuple",
)


def _next_moments(road, ahead, moment):
    """The moments at which the TOWERS show a sign that is given at a moment; ahead has those of the sign ahead."""
    found = []
    for tower in range(len(road)):
        see, hold, answer = road[tower]
        first = moment if tower == 0 else found[tower - 1] + see
        if ahead is not None:
            first = max(first, ahead[tower] + hold)
            if tower + 1 < len(road):
                first = max(first, ahead[tower + 1] + answer)
        found.append(first)
    return tuple(found)


class Trial:
    """What is done to a chain in a with statement, and is not so behind it."""

    def __init__(self, chain):
        self.tried = chain
        self.kept_now = 0
        self.kept_deeds = []
        self.kept_signs = []
        self.kept_times = []

    def __enter__(self):
        tried = self.tried
        # The block may take back deeds from ahead of it, so their number alone would not do.
        self.kept_now = tried._now
        self.kept_deeds = list(tried._deeds)
        self.kept_signs = list(tried._signs)
        self.kept_times = list(tried._times)
        return tried

    def __exit__(self, kind, value, trace):
        tried = self.tried
        tried._now = self.kept_now
        tried._deeds = self.kept_deeds
        tried._signs = self.kept_signs
        tried._times = self.kept_times


class Chain:
    """A CHAIN: a ROAD at whose first TOWER signs are given while moments go on."""

    def __init__(self, road):
        self._road = need_road(road)
        self._now = 0
        # A deed is a string that was given, or a number of moments that went by.
        self._deeds = []
        # For each sign that was given the pair of it and its moment, and T for all TOWERS.
        self._signs = []
        self._times = []

    def give(self, letter):
        """Give the first TOWER a sign now; returns its number."""
        if not isinstance(letter, str) or not 1 <= len(letter) <= MOST_LETTER:
            raise OutOfPlace(f"the sign is no string of 1 to {MOST_LETTER} characters")
        ahead = self._times[-1] if self._times else None
        self._times.append(_next_moments(self._road, ahead, self._now))
        self._signs.append((letter, self._now))
        self._deeds.append(letter)
        return len(self._signs) - 1

    def __call__(self, moments=1):
        need_integer(moments, 0, MOST_MOMENTS, "the number of moments")
        self._deeds.append(moments)
        self._now += moments
        return self._now

    @property
    def road(self):
        """The ROAD."""
        return self._road

    @property
    def moment(self):
        """The moment that is now."""
        return self._now

    @property
    def given(self):
        """The tuple of the pairs (SIGN, MOMENT) that were given."""
        return tuple(self._signs)

    def _many_shown(self, tower):
        """How many signs a TOWER has shown so far."""
        # On each TOWER a sign is later than the one ahead, since it holds for one moment at least.
        least = 0
        most = len(self._times)
        while least < most:
            middle = (least + most) // 2
            if self._times[middle][tower] <= self._now:
                least = middle + 1
            else:
                most = middle
        return least

    def _last_shown(self, tower):
        """What a TOWER shows now, or None."""
        many = self._many_shown(tower)
        return self._signs[many - 1][0] if many > 0 else None

    @property
    def showing(self):
        """The tuple with what each TOWER shows now: the string, or None."""
        return tuple([self._last_shown(tower) for tower in range(len(self._road))])

    @property
    def arrived(self):
        """The tuple of the strings that the last TOWER has shown so far."""
        many = self._many_shown(len(self._road) - 1)
        return tuple([letter for letter, _ in self._signs[:many]])

    def will(self, tower, number):
        """The moment from which on a TOWER can show a sign that was given."""
        need_integer(tower, 0, len(self._road) - 1, "the tower")
        need_integer(number, 0, len(self._signs) - 1, "the number of the sign")
        return self._times[number][tower]

    def __len__(self):
        return len(self._signs)

    def back(self, *, many=1):
        """Take the last deeds back."""
        if not is_whole(many) or many < 1:
            raise OutOfPlace("the number of deeds is no integer from 1 on")
        if many > len(self._deeds):
            raise Nothing("there are not so many deeds")
        left = len(self._deeds) - many
        taken = self._deeds[left:]
        signs_left = len(self._signs) - len([deed for deed in taken if isinstance(deed, str)])
        self._now -= sum([deed for deed in taken if not isinstance(deed, str)])
        del self._deeds[left:]
        del self._signs[signs_left:]
        del self._times[signs_left:]

    def copy(self):
        """A Chain that stands likewise and goes on by itself."""
        other = Chain(self._road)
        other._now = self._now
        other._deeds = list(self._deeds)
        other._signs = list(self._signs)
        other._times = list(self._times)
        return other

    def trial(self):
        """An object for one with statement, behind whose block the chain is as it was ahead of it."""
        return Trial(self)

    def __eq__(self, other):
        return isinstance(other, Chain) and self._road == other._road and self._deeds == other._deeds


def under(chain, deed):
    """What deed(chain) returns, called in a trial of the chain."""
    if not isinstance(chain, Chain):
        raise OutOfPlace("the chain is none")
    if deed is None or deed.__class__.__name__ in UNCALLED:
        raise OutOfPlace("the deed is nothing that can be called")
    with chain.trial():
        return deed(chain)
