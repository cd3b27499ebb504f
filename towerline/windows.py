"""Windows and tables, for lines of any number of towers: point [4].

A LINE that FITS a TABLE is a path: its WINDOWS lead, each from all of its
signs but the last to all of them but the first, from the edge of "<" to the
edge of ">". So all is told by these steps, without going through LINES.
"""

from towerline.errors import OutOfPlace, TooGreat
from towerline.kinds import is_ascending, is_word, need_integer
from towerline.rules import LETTERS, acting_rules, need_line, need_task

LEAST_SIZE = 2
MOST_SIZE = 4
MOST_SIGNS = 200
MOST_WINDOWS = 500
MOST_TOWERS = 1000


def need_size(size):
    """Refuse what is no SIZE."""
    need_integer(size, LEAST_SIZE, MOST_SIZE, "the size")


def need_table(task, table):
    """Refuse what is no TABLE for the SIGNS of a TASK."""
    if not is_table(task[0], table):
        raise OutOfPlace("the table is no ascending tuple of windows of one size")


def is_table(signs, thing):
    """Whether a thing is a TABLE for these SIGNS."""
    if not isinstance(thing, tuple) or not all([_is_window(signs, item) for item in thing]):
        return False
    return all([len(window) == len(thing[0]) for window in thing]) and is_ascending(thing)


def _is_window(signs, thing):
    """Whether a thing is a WINDOW, of any SIZE, for these SIGNS."""
    if not isinstance(thing, str) or not LEAST_SIZE <= len(thing) <= MOST_SIZE:
        return False
    return is_word(thing.lstrip("<").rstrip(">"), signs)


def _windows_in(size, line):
    """The WINDOWS of a LINE from left to right."""
    edge = size - 1
    padded = "<" * edge + line + ">" * edge
    return [padded[at:at + size] for at in range(len(line) + edge)]


def windows_of(size, line):
    """The ascending tuple of the WINDOWS of a LINE."""
    need_size(size)
    if not is_word(line, LETTERS) or len(line) > MOST_SIGNS:
        raise OutOfPlace(f"the line is no string of 1 to {MOST_SIGNS} letters")
    return tuple(sorted(set(_windows_in(size, line))))


def does_fit(task, table, line):
    """Whether a LINE FITS a TABLE."""
    need_task(task)
    need_table(task, table)
    need_line(task, line)
    if not table:
        return False
    known = {window: True for window in table}
    return all([window in known for window in _windows_in(len(table[0]), line)])


def alive(task, table):
    """The TABLE of the WINDOWS of a TABLE that are ALIVE."""
    need_task(task)
    need_table(task, table)
    return alive_windows(table)


def alive_windows(table):
    """The WINDOWS of a TABLE that are ALIVE: those on a path from edge to edge."""
    if not table:
        return ()
    onward = {}
    backward = {}
    for window in table:
        onward.setdefault(window[:-1], []).append(window[1:])
        backward.setdefault(window[1:], []).append(window[:-1])
    edge = len(table[0]) - 1
    ahead = _reached(onward, "<" * edge)
    behind = _reached(backward, ">" * edge)
    return tuple([
        window for window in table
        if window[:-1] in ahead and window[1:] in behind
    ])


def _reached(steps, first):
    """What is reached from a first word by steps, as a dict of True."""
    found = {first: True}
    waiting = [first]
    while waiting:
        word = waiting.pop()
        for later in steps.get(word, []):
            if later not in found:
                found[later] = True
                waiting.append(later)
    return found


def wide_windows(living):
    """The WINDOWS, of three signs at least, of all LINES that FIT a TABLE whose WINDOWS are all ALIVE.

    Those of SIZE 3 are put together of those of SIZE 2, but for those that
    end in ">>".
    """
    if not living or len(living[0]) > LEAST_SIZE:
        return list(living)
    ahead = {"<": ["<"]}
    for window in living:
        ahead.setdefault(window[1], []).append(window[0])
    return [sign + window for window in living for sign in ahead[window[0]]]


def threes_in(living):
    """The strings of three signs in all LINES, with their edges, that FIT a TABLE whose WINDOWS are all ALIVE.

    Those of which a tower is the middle one are all there; some of the others
    may be missing.
    """
    # There are ">" enough behind a LINE for each of them to begin a WINDOW.
    return list({window[:3]: True for window in wide_windows(living)})


def _start_windows(task, size):
    """The WINDOWS of all STARTS."""
    # PAIRS are WINDOWS of SIZE 2; a walk over the ALIVE ones can always be
    # led on to both edges, so it stands in some START.
    steps = [*alive_windows(task[2]), "<<", ">>"]
    words = steps
    for _ in range(size - 2):
        words = [word + pair[1] for word in words for pair in steps if pair[0] == word[-1]]
    return [word for word in words if word.strip("<>") != ""]


def _new_signs(task):
    """For three signs side by side those that the middle tower may show next."""
    return {
        seen: sorted(set([task[1][number][3] for number in numbers]))
        for seen, numbers in acting_rules(task).items()
    }


def _spans_from(signs, known, window):
    """The spans, of one sign more than a WINDOW, with this one and one that is known behind it."""
    return [window + sign for sign in signs + ">" if window[1:] + sign in known]


def _spans_to(signs, known, window):
    """The spans, of one sign more than a WINDOW, with one that is known and this one behind it."""
    return [sign + window for sign in "<" + signs if sign + window[:-1] in known]


def _changed(news, span):
    """The WINDOWS that a MOVE at an inner tower of a span puts in it."""
    # Each WINDOW with the tower that moves stands in a span in which both
    # neighbours of this tower stand, so that no wider look is needed.
    found = []
    for at in range(1, len(span) - 1):
        for new in news.get(span[at - 1:at + 2], []):
            moved = span[:at] + new + span[at + 1:]
            found.append(moved[:-1])
            found.append(moved[1:])
    return found


def is_closed(task, table):
    """Whether a TABLE is CLOSED for a TASK."""
    need_task(task)
    need_table(task, table)
    return closes(task, table)


def closes(task, table):
    """Whether what is a TABLE is CLOSED for what is a TASK."""
    # The empty TABLE is of any SIZE: no START at all may be there.
    size = len(table[0]) if table else LEAST_SIZE
    known = {window: True for window in table}
    if not all([window in known for window in _start_windows(task, size)]):
        return False
    news = _new_signs(task)
    living = {window: True for window in alive_windows(table)}
    for window in living:
        for span in _spans_from(task[0], living, window):
            if not all([moved in known for moved in _changed(news, span)]):
                return False
    return True


def table_of(task, size):
    """The TABLE of this SIZE of a TASK: the CLOSED one with the fewest WINDOWS."""
    need_task(task)
    need_size(size)
    return least_table(task, size)


def least_table(task, size):
    """The TABLE of what is a SIZE of what is a TASK."""
    news = _new_signs(task)
    known = {}
    fresh = _start_windows(task, size)
    while fresh:
        for window in fresh:
            known[window] = True
        # All that was found is in each CLOSED TABLE, so more is too great for good.
        if len(known) > MOST_WINDOWS:
            raise TooGreat(MOST_WINDOWS)
        fresh = _brought_by(task[0], news, known, fresh)
    return tuple(sorted(known))


def _brought_by(signs, news, known, fresh):
    """The WINDOWS not yet known that MOVES bring in spans with a fresh one."""
    # All that is known is ALIVE in the end: what a MOVE brings stands in the
    # LINE behind this MOVE, and all else of that LINE is brought as well.
    brought = {}
    for window in fresh:
        for span in _spans_from(signs, known, window) + _spans_to(signs, known, window):
            for moved in _changed(news, span):
                if moved not in known:
                    brought[moved] = True
    return list(brought)


def many_lines(task, table, towers):
    """How many LINES of so many towers FIT a TABLE."""
    need_task(task)
    need_table(task, table)
    need_integer(towers, 1, MOST_TOWERS, "the number of towers")
    if not table:
        return 0
    edge = len(table[0]) - 1
    steps = [(window[:-1], window[1:]) for window in table]
    counts = {"<" * edge: 1}
    for _ in range(towers + edge):
        later = {}
        for ahead, behind in steps:
            if ahead in counts:
                later[behind] = later.get(behind, 0) + counts[ahead]
        counts = later
    return counts.get(">" * edge, 0)
