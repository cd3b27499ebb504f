"""All runs of so many towers: point [7]."""

from towerline.errors import TooGreat
from towerline.kinds import need_integer
from towerline.rules import acting_rules, has_bad, need_task, rests_stuck, whole_of

MOST_TOWERS = 8
MOST_LINES = 20000
MOST_COUNT = 200


def need_towers(towers):
    """Refuse what is no number of towers of which all is told exactly."""
    need_integer(towers, 1, MOST_TOWERS, "the number of towers")


def _next_signs(pairs):
    """For "<" and each sign the signs, ascending, that may follow it by some PAIRS."""
    nexts = {"<": []}
    for pair in pairs:
        nexts.setdefault(pair[0], []).append(pair[1])
    return nexts


def _start_ends(nexts, towers):
    """For 1 tower, 2 towers and so on how many ends of STARTS, of so many towers, begin with a sign.

    Signs with which none begins are left out.
    """
    ends = [{sign: 1 for sign in nexts if ">" in nexts[sign]}]
    for _ in range(towers - 1):
        shorter = ends[-1]
        many = {sign: sum([shorter.get(later, 0) for later in nexts[sign]]) for sign in nexts}
        ends.append({sign: many[sign] for sign in many if many[sign] > 0})
    return ends


def _start_lines(task, towers):
    """The STARTS of so many towers, ascending."""
    nexts = _next_signs(task[2])
    ends = _start_ends(nexts, towers)
    # All of them COME, so too many are told ahead of making a single one.
    if sum([ends[-1].get(sign, 0) for sign in nexts["<"]]) > MOST_LINES:
        raise TooGreat(MOST_LINES)
    lines = [sign for sign in nexts["<"] if sign in ends[-1]]
    for left in range(towers - 2, -1, -1):
        lines = [line + sign for line in lines for sign in nexts[line[-1]] if sign in ends[left]]
    return lines


def _choices(task):
    """For three signs side by side the (NEW, RULE, MANY) of the middle tower.

    RULE is the first rule that makes it show NEW, MANY how many rules do so.
    """
    choices = {}
    for seen, numbers in acting_rules(task).items():
        ways = {}
        for number in numbers:
            ways.setdefault(task[1][number][3], []).append(number)
        choices[seen] = [(new, same[0], len(same)) for new, same in ways.items()]
    return choices


def _steps(choices, line):
    """The (LINE, TOWER, RULE, MANY) of all LINES behind one MOVE at a LINE."""
    whole = whole_of(line)
    return [
        (line[:tower] + new + line[tower + 1:], tower, rule, many)
        for tower in range(len(line))
        for new, rule, many in choices.get(whole[tower:tower + 3], [])
    ]


def reached_lines(task, towers):
    """All LINES of so many towers that COME, nearest first.

    It is a dict: for a START None, for another LINE the LINE and the MOVE by
    which a shortest RUN leads to it.
    """
    choices = _choices(task)
    fresh = _start_lines(task, towers)
    found = {line: None for line in fresh}
    while fresh:
        later = []
        for line in fresh:
            for beyond, tower, rule, _ in _steps(choices, line):
                if beyond not in found:
                    found[beyond] = (line, (tower, rule))
                    later.append(beyond)
            if len(found) > MOST_LINES:
                raise TooGreat(MOST_LINES)
        fresh = later
    return found


def run_to(found, line):
    """The RUN to a LINE by which it was reached."""
    codes = []
    while found[line] is not None:
        line, move = found[line]
        codes.append(move)
    return (line, tuple(codes[::-1]))


def lines_that_come(task, towers):
    """The ascending tuple of the LINES of so many towers that COME."""
    need_task(task)
    need_towers(towers)
    return tuple(sorted(reached_lines(task, towers)))


def bad_run(task, towers):
    """A shortest RUN of so many towers to a LINE that is BAD, or None."""
    need_task(task)
    need_towers(towers)
    return shortest_bad(task, towers)


def shortest_bad(task, towers):
    """What bad_run returns, of what is a TASK and a number of towers."""
    found = reached_lines(task, towers)
    for line in found:
        if has_bad(task, line):
            return run_to(found, line)
    return None


def stuck_run(task, towers):
    """A shortest RUN of so many towers to a LINE that is STUCK, or None."""
    need_task(task)
    need_towers(towers)
    return shortest_stuck(task, towers)


def shortest_stuck(task, towers):
    """What stuck_run returns, of what is a TASK and a number of towers."""
    found = reached_lines(task, towers)
    acting = acting_rules(task)
    for line in found:
        if rests_stuck(task, acting, line):
            return run_to(found, line)
    return None


def _followers(task, found):
    """For each LINE found, by its number, the pairs (NUMBER, MANY) of the LINES behind one MOVE."""
    choices = _choices(task)
    numbers = {}
    for line in found:
        numbers[line] = len(numbers)
    return [
        [(numbers[beyond], many) for beyond, _, _, many in _steps(choices, line)]
        for line in found
    ]


def most_moves(task, towers):
    """The greatest number of MOVES of a RUN of so many towers, or None if one can go on for ever."""
    need_task(task)
    need_towers(towers)
    return _longest_way(_followers(task, reached_lines(task, towers)))


def _longest_way(rows):
    """The greatest number of steps one behind the other, or None if they lead round a ring."""
    entries = [0] * len(rows)
    for row in rows:
        for later, _ in row:
            entries[later] += 1
    lengths = [0] * len(rows)
    ready = [number for number in range(len(rows)) if entries[number] == 0]
    done = 0
    while ready:
        number = ready.pop()
        done += 1
        for later, _ in rows[number]:
            lengths[later] = max(lengths[later], lengths[number] + 1)
            entries[later] -= 1
            if entries[later] == 0:
                ready.append(later)
    # What stands in a ring, or behind one, never becomes ready.
    if done < len(rows):
        return None
    return max(lengths, default=0)


def many_runs(task, towers, count):
    """How many RUNS of so many towers with so many MOVES there are."""
    need_task(task)
    need_towers(towers)
    need_integer(count, 0, MOST_COUNT, "the number of moves")
    found = reached_lines(task, towers)
    ways = _ways_on(_followers(task, found), count)
    starts = [line for line in found if found[line] is None]
    # The STARTS are found ahead of all other LINES.
    return sum(ways[:len(starts)])


def _ways_on(rows, count):
    """For each number in how many ways so many steps can be taken from it."""
    manys = sorted({many for row in rows for _, many in row})
    # Sums of plain items are much faster than those of products, so each
    # step looks its products up in one long list.
    first = {manys[at]: at * len(rows) for at in range(len(manys))}
    places = [[first[many] + later for later, many in row] for row in rows]
    ways = [1] * len(rows)
    for _ in range(count):
        products = [many * way for many in manys for way in ways]
        ways = [sum([products[place] for place in row]) for row in places]
    return ways
