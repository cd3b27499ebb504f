"""Lively rules, and ranks by which all lines come to rest: point [6]."""

from towerline.rules import acting_rules, need_line, need_task
from towerline.windows import least_table, need_size, threes_in


def lively(task, size):
    """The ascending tuple of the numbers of the rules that are LIVELY for a SIZE."""
    need_task(task)
    need_size(size)
    return tuple(_lively_rules(task, size))


def _lively_rules(task, size):
    """The numbers, ascending, of the rules that are LIVELY for a SIZE."""
    acting = acting_rules(task)
    threes = threes_in(least_table(task, size))
    return sorted(set([number for three in threes for number in acting.get(three, [])]))


def ranks(task, size):
    """The RANKS for a SIZE, or None."""
    need_task(task)
    need_size(size)
    return _ranks_for(task, size)


def _ranks_for(task, size):
    """The RANKS for a SIZE, or None if LIVELY rules lead round a ring."""
    steps = {sign: [] for sign in task[0]}
    for number in _lively_rules(task, size):
        _, own, _, new = task[1][number]
        steps[own].append(new)
    found = {}
    # Each round ranks one sign at least, but for those in rings and ahead of them.
    for _ in task[0]:
        for sign in task[0]:
            if all([new in found for new in steps[sign]]):
                found[sign] = max([found[new] + 1 for new in steps[sign]], default=0)
    if len(found) < len(task[0]):
        return None
    return tuple([found[sign] for sign in task[0]])


def rank_sum(task, size, line):
    """The sum of the RANKS for a SIZE of the signs of a LINE, or None without RANKS."""
    need_task(task)
    need_size(size)
    need_line(task, line)
    told = _ranks_for(task, size)
    if told is None:
        return None
    return sum([told[at] * line.count(task[0][at]) for at in range(len(told))])
