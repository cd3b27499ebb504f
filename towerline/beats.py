"""Beats, in which all towers move at once: point [8]."""

from towerline.errors import OutOfPlace
from towerline.kinds import need_integer
from towerline.rules import acting_rules, need_line, need_task, whole_of

MOST_BEAT_TOWERS = 12
MOST_BEATS = 10 ** 30
MOST_KEPT = 65536


def _need_short_line(task, line):
    """Refuse what is no LINE of a TASK, or one of too many towers."""
    need_line(task, line)
    if len(line) > MOST_BEAT_TOWERS:
        raise OutOfPlace(f"the line has more than {MOST_BEAT_TOWERS} towers")


def _first_news(task):
    """For three signs side by side NEW of the first rule that may act at the middle one."""
    return {three: task[1][numbers[0]][3] for three, numbers in acting_rules(task).items()}


def _shown_behind(news, part):
    """What all signs of a part of a WHOLE but its first and its last one show behind a BEAT."""
    return "".join([news.get(part[at - 1:at + 2], part[at]) for at in range(1, len(part) - 1)])


class Orbit:
    """The LINES behind 0, 1, 2 and more BEATS, as WHOLES, until one comes again.

    There can be many millions of them, so no more than MOST_KEPT are kept:
    those behind whole numbers of strides, which become longer as need be.
    """

    def __init__(self, task, line):
        self.news = _first_news(task)
        self.middle = len(line) // 2
        self.fronts = {}
        self.backs = {}
        self.stride = 1
        self.kept = [whole_of(line)]
        self.places = {self.kept[0]: 0}

    def behind(self, whole):
        """The WHOLE behind one BEAT."""
        # Halves come again much sooner than WHOLES do.
        front = whole[:self.middle + 2]
        if front not in self.fronts:
            self.fronts[front] = "<" + _shown_behind(self.news, front)
        back = whole[self.middle:]
        if back not in self.backs:
            self.backs[back] = _shown_behind(self.news, back) + ">"
        return self.fronts[front] + self.backs[back]

    def keep(self, whole):
        """Keep one WHOLE more, that is one stride behind the last one."""
        self.places[whole] = len(self.kept)
        self.kept.append(whole)
        if len(self.kept) > MOST_KEPT:
            self.kept = self.kept[::2]
            self.places = {self.kept[at]: at for at in range(len(self.kept))}
            self.stride *= 2

    def go_round(self, most):
        """Go on for so many BEATS, or until a WHOLE that is kept comes again.

        Returns how many BEATS that were, and the number of those behind which
        the same WHOLE was kept, or None.
        """
        whole = self.kept[0]
        beats = 0
        while beats < most:
            whole = self.behind(whole)
            beats += 1
            if whole in self.places:
                return (beats, self.places[whole] * self.stride)
            if beats % self.stride == 0:
                self.keep(whole)
        return (beats, None)

    def whole_at(self, beats):
        """The WHOLE behind so many BEATS, if so many were gone on for."""
        whole = self.kept[beats // self.stride]
        for _ in range(beats % self.stride):
            whole = self.behind(whole)
        return whole

    def first_again(self, ahead, many):
        """The least number of BEATS behind which all comes again many BEATS later, by what go_round returned."""
        if ahead == 0:
            return 0
        # Of all that are kept the one at ahead is the first that comes again:
        # one ahead of it would have been met sooner.
        first = ahead - self.stride
        one = self.whole_at(first)
        other = self.whole_at(first + many)
        while one != other:
            one = self.behind(one)
            other = self.behind(other)
            first += 1
        return first


def beat(task, line):
    """The LINE behind one BEAT."""
    need_task(task)
    _need_short_line(task, line)
    return _shown_behind(_first_news(task), whole_of(line))


def fate(task, line):
    """The FATE of a LINE: the least (FIRST, ROUND)."""
    need_task(task)
    _need_short_line(task, line)
    orbit = Orbit(task, line)
    # There are fewer LINES of so many towers than MOST_BEATS.
    last, ahead = orbit.go_round(MOST_BEATS)
    many = last - ahead
    return (orbit.first_again(ahead, many), many)


def line_at(task, line, beats):
    """The LINE behind so many BEATS."""
    need_task(task)
    _need_short_line(task, line)
    need_integer(beats, 0, MOST_BEATS, "the number of beats")
    orbit = Orbit(task, line)
    last, ahead = orbit.go_round(beats)
    if ahead is None:
        return orbit.whole_at(beats)[1:-1]
    return orbit.whole_at(ahead + (beats - ahead) % (last - ahead))[1:-1]
