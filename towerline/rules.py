"""Tasks, lines, moves and runs along given moves: points [2] and [3]."""

from towerline.errors import BadTask, OutOfPlace
from towerline.kinds import is_ascending, is_integer, is_rising_word, is_tuple, is_word

LETTERS = "abcdefghijklmnopqrstuvwxyz"
LEAST_SIGNS = 2
MOST_SIGNS = 6
MOST_RULES = 24
MOST_BAD = 12
LEAST_BAD = 1
LONGEST_BAD = 3
MOST_MOVES = 1000


def need_task(thing):
    """The thing itself, if it is a TASK; else the first wrong part is told."""
    if not is_tuple(thing, 5, 5):
        raise BadTask("form")
    signs, rules, starts, bad, ends = thing
    if not _are_signs(signs):
        raise BadTask("signs")
    if not _are_rules(signs, rules):
        raise BadTask("rules")
    if not _are_pairs(signs, starts):
        raise BadTask("starts")
    if not _are_bad(signs, bad):
        raise BadTask("bad")
    if not _are_pairs(signs, ends):
        raise BadTask("ends")
    return thing


def _are_signs(thing):
    """Whether a thing can be the SIGNS of a TASK."""
    return is_rising_word(thing, LETTERS) and LEAST_SIGNS <= len(thing) <= MOST_SIGNS


def _are_rules(signs, thing):
    """Whether a thing can be the RULES of a TASK with these SIGNS."""
    if not is_tuple(thing, 1, MOST_RULES):
        return False
    lefts = "<" + signs
    rights = signs + ">"
    for rule in thing:
        if not is_tuple(rule, 4, 4):
            return False
        left, own, right, new = rule
        if not _is_sign(signs, own) or not _is_sign(signs, new) or own == new:
            return False
        if not is_rising_word(left, lefts) or not is_rising_word(right, rights):
            return False
    return True


def _is_sign(signs, thing):
    """Whether a thing is one of the SIGNS."""
    return isinstance(thing, str) and len(thing) == 1 and thing in signs


def _are_pairs(signs, thing):
    """Whether a thing can be the STARTS or ENDS of a TASK with these SIGNS."""
    if not isinstance(thing, tuple):
        return False
    for pair in thing:
        if not isinstance(pair, str) or len(pair) != 2:
            return False
    # All first signs, and all second ones, are looked at together.
    text = "".join(thing)
    if text[::2].strip("<" + signs) != "" or text[1::2].strip(signs + ">") != "":
        return False
    return "<>" not in thing and is_ascending(thing)


def _are_bad(signs, thing):
    """Whether a thing can be the BAD of a TASK with these SIGNS."""
    if not is_tuple(thing, 0, MOST_BAD):
        return False
    for word in thing:
        if not isinstance(word, str) or not LEAST_BAD <= len(word) <= LONGEST_BAD:
            return False
        if not is_word(word.removeprefix("<").removesuffix(">"), signs):
            return False
    return is_ascending(thing)


def need_line(task, line):
    """Refuse what is no LINE of a TASK."""
    if not is_word(line, task[0]):
        raise OutOfPlace("the line is no string of the signs of the task")


def whole_of(line):
    """The WHOLE of a LINE."""
    return "<" + line + ">"


def acting_rules(task):
    """For three signs side by side the numbers, ascending, of the rules that may act at the middle one."""
    acting = {}
    rules = task[1]
    for number in range(len(rules)):
        lefts, own, rights, _ = rules[number]
        for left in lefts:
            for right in rights:
                acting.setdefault(left + own + right, []).append(number)
    return acting


def is_of_pairs(pairs, line):
    """Whether a LINE is of some PAIRS."""
    whole = whole_of(line)
    return all([whole[at:at + 2] in pairs for at in range(len(whole) - 1)])


def has_bad(task, line):
    """Whether a LINE is BAD."""
    whole = whole_of(line)
    return any([word in whole for word in task[3]])


def rests_stuck(task, acting, line):
    """Whether a LINE is STUCK, by the rules that may act at three signs."""
    whole = whole_of(line)
    if any([whole[at:at + 3] in acting for at in range(len(line))]):
        return False
    return not is_of_pairs(task[4], line)


def is_line(task, value):
    """Whether any value is a LINE."""
    need_task(task)
    return is_word(value, task[0])


def moves(task, line):
    """The ascending tuple of all MOVES at a LINE."""
    need_task(task)
    need_line(task, line)
    acting = acting_rules(task)
    whole = whole_of(line)
    return tuple([
        (tower, number)
        for tower in range(len(line))
        for number in acting.get(whole[tower:tower + 3], [])
    ])


def after(task, line, move):
    """The LINE behind a MOVE."""
    need_task(task)
    need_line(task, line)
    return _behind_all(task, line, (move,))


def _behind_all(task, line, codes):
    """The LINE behind some MOVES, one behind the other."""
    whole = list(whole_of(line))
    for move in codes:
        if not _is_move(task, whole, move):
            raise OutOfPlace("a move is none at the line at which it stands")
        tower, number = move
        whole[tower + 1] = task[1][number][3]
    return "".join(whole[1:-1])


def _is_move(task, whole, thing):
    """Whether a thing is a MOVE at the LINE with the WHOLE, a list."""
    if not is_tuple(thing, 2, 2):
        return False
    tower, number = thing
    if not is_integer(tower, 0, len(whole) - 3) or not is_integer(number, 0, len(task[1]) - 1):
        return False
    left, own, right, _ = task[1][number]
    return whole[tower] in left and whole[tower + 1] == own and whole[tower + 2] in right


def is_start(task, line):
    """Whether a LINE is a START."""
    need_task(task)
    need_line(task, line)
    return is_of_pairs(task[2], line)


def is_end(task, line):
    """Whether a LINE is an END."""
    need_task(task)
    need_line(task, line)
    return is_of_pairs(task[4], line)


def is_bad(task, line):
    """Whether a LINE is BAD."""
    need_task(task)
    need_line(task, line)
    return has_bad(task, line)


def is_stuck(task, line):
    """Whether a LINE is STUCK."""
    need_task(task)
    need_line(task, line)
    return rests_stuck(task, acting_rules(task), line)


def run_end(task, line, codes):
    """The LINE to which a RUN leads."""
    need_task(task)
    return end_of_run(task, line, codes)


def end_of_run(task, line, codes):
    """The LINE to which a RUN of what is a TASK leads."""
    need_line(task, line)
    if not is_of_pairs(task[2], line):
        raise OutOfPlace("the line is no start")
    if not is_tuple(codes, 0, MOST_MOVES):
        raise OutOfPlace(f"the codes are no tuple of at most {MOST_MOVES} moves")
    return _behind_all(task, line, codes)
