"""Windows and tables, for lines of any number of towers: point [4].

A LINE that FITS a TABLE is a path: its WINDOWS lead, each from all of its
signs but the last to all of them but the first, from the edge of "<" to the
edge of ">". So all is told by these steps, without going through LINES.
"""

from towerline.errors import OutOfPlace, TooGreat
from towerline.kinds import is_word, need_integer
from towerline.rules import LETTERS, need_line, need_task

LEAST_SIZE = 2
MOST_SIZE = 4
MOST_SIGNS = 200
MOST_WINDOWS = 500
MOST_TOWERS = 1000


def need_size(size):
    """Refuse what is no SIZE."""
    need_integer(size, LEAST_SIZE, MOST_SIZE, "the size")


def need_table(task, table):
    """Refuse what is no TABLE for the SIGNS of a TASK."""
    if not is_table(task[0], table):
        raise OutOfPlace("the table is no ascending tuple of windows of one size")


def is_table(signs, thing):
    """Whether a thing is a TABLE for these SIGNS."""
    if not isinstance(thing, tuple):
        return False
    size = None
    ahead = ""
    for window in thing:
        if not isinstance(window, str) or window <= ahead:
            return False
        if size is None:
            size = len(window)
        tower_signs = window.lstrip("<").rstrip(">")
        if len(window) != size or tower_signs == "" or tower_signs.strip(signs) != "":
            return False
        ahead = window
    return size is None or LEAST_SIZE <= size <= MOST_SIZE


def _windows_in(size, line):
    """The WINDOWS of a LINE from left to right."""
    edge = size - 1
    padded = "<" * edge + line + ">" * edge
    return [padded[at:at + size] for at in range(len(line) + edge)]


def windows_of(size, line):
    """The ascending tuple of the WINDOWS of a LINE."""
    need_size(size)
    if not is_word(line, LETTERS) or len(line) > MOST_SIGNS:
        raise OutOfPlace(f"the line is no string of 1 to {MOST_SIGNS} letters")
    return tuple(sorted(set(_windows_in(size, line))))


def does_fit(task, table, line):
    """Whether a LINE FITS a TABLE."""
    need_task(task)
    need_table(task, table)
    need_line(task, line)
    if not table:
        return False
    return len(set(_windows_in(len(table[0]), line)) - set(table)) == 0


def alive(task, table):
    """The TABLE of the WINDOWS of a TABLE that are ALIVE."""
    need_task(task)
    need_table(task, table)
    return alive_windows(table)


def alive_windows(table):
    """The WINDOWS of a TABLE that are ALIVE: those on a path from edge to edge."""
    if not table:
        return ()
    steps = [(window[:-1], window[1:]) for window in table]
    onward = {}
    backward = {}
    for ahead, behind in steps:
        onward.setdefault(ahead, []).append(behind)
        backward.setdefault(behind, []).append(ahead)
    edge = len(table[0]) - 1
    begun = _reached(onward, "<" * edge)
    ended = _reached(backward, ">" * edge)
    return tuple([
        window for window, (ahead, behind) in zip(table, steps)
        if ahead in begun and behind in ended
    ])


def _reached(steps, first):
    """What is reached from a first word by steps, as a dict of True."""
    found = {first: True}
    waiting = [first]
    while waiting:
        word = waiting.pop()
        for later in steps.get(word, []):
            if later not in found:
                found[later] = True
                waiting.append(later)
    return found


def wide_windows(living):
    """The WINDOWS, of three signs at least, of all LINES that FIT a TABLE whose WINDOWS are all ALIVE.

    Those of SIZE 3 are put together of those of SIZE 2, but for those that
    end in ">>".
    """
    if not living or len(living[0]) > LEAST_SIZE:
        return list(living)
    ahead = {"<": ["<"]}
    for window in living:
        ahead.setdefault(window[1], []).append(window[0])
    return [sign + window for window in living for sign in ahead[window[0]]]


def threes_in(living):
    """The strings of three signs in all LINES, with their edges, that FIT a TABLE whose WINDOWS are all ALIVE.

    Those of which a tower is the middle one are all there; some of the others
    may be missing.
    """
    # There are ">" enough behind a LINE for each of them to begin a WINDOW.
    return list({window[:3]: True for window in wide_windows(living)})


def _start_windows(task, size):
    """The WINDOWS of all STARTS."""
    # PAIRS are WINDOWS of SIZE 2; a walk over the ALIVE ones can always be
    # led on to both edges, so it stands in some START.
    followers = {"<": ["<"], ">": [">"]}
    for first, second in alive_windows(task[2]):
        followers.setdefault(first, []).append(second)
    words = list(followers)
    for _ in range(size - 1):
        words = [word + sign for word in words for sign in followers[word[-1]]]
    return [word for word in words if word.strip("<>") != ""]


def _new_signs(task):
    """For three signs side by side those that the middle tower may show next."""
    news = {}
    for left_signs, own, right_signs, new in task[1]:
        for left in left_signs:
            for right in right_signs:
                shown = news.setdefault(left + own + right, [])
                if new not in shown:
                    shown.append(new)
    return news


# Behind a MOVE each WINDOW with the tower that moves is another one. This tower
# is an inner one of it, with both of its neighbours; or it is the first or the
# last one, with one neighbour beside it, in a span: a WINDOW and one sign more.

def _moved_inside(news, windows):
    """The WINDOWS that take the place of some behind MOVES of their inner towers."""
    return [
        window[:at] + new + window[at + 1:]
        for window in windows
        for at in range(1, len(window) - 1)
        for new in news.get(window[at - 1:at + 2], ())
    ]


def _moved_ends(news, spans):
    """The WINDOWS that take the place of the first ones, and the last ones, of spans behind MOVES in both."""
    found = [span[:-2] + new for span in spans for new in news.get(span[-3:], ())]
    found.extend([new + span[2:] for span in spans for new in news.get(span[:3], ())])
    return found


def is_closed(task, table):
    """Whether a TABLE is CLOSED for a TASK."""
    need_task(task)
    need_table(task, table)
    return closes(task, table)


def closes(task, table):
    """Whether what is a TABLE is CLOSED for what is a TASK."""
    # The empty TABLE is of any SIZE: no START at all may be there.
    size = len(table[0]) if table else LEAST_SIZE
    known = set(table)
    for window in _start_windows(task, size):
        if window not in known:
            return False
    news = _new_signs(task)
    living = alive_windows(table)
    followers = {}
    for window in living:
        followers.setdefault(window[:-1], []).append(window[-1])
    spans = [window + sign for window in living for sign in followers.get(window[1:], ())]
    for moved in _moved_inside(news, living) + _moved_ends(news, spans):
        if moved not in known:
            return False
    return True


def table_of(task, size):
    """The TABLE of this SIZE of a TASK: the CLOSED one with the fewest WINDOWS."""
    need_task(task)
    need_size(size)
    return least_table(task, size)


def least_table(task, size):
    """The TABLE of what is a SIZE of what is a TASK."""
    news = _new_signs(task)
    waiting = _start_windows(task, size)
    known = {window: True for window in waiting}
    behind = {}
    ahead = {}
    # All that is known is ALIVE in the end: what a MOVE brings stands in the
    # LINE behind this MOVE, and all else of that LINE is brought as well.
    while waiting:
        # All that is known is in each CLOSED TABLE, so more is too great for good.
        if len(known) > MOST_WINDOWS:
            raise TooGreat(MOST_WINDOWS)
        window = waiting.pop()
        behind.setdefault(window[:-1], []).append(window[-1])
        ahead.setdefault(window[1:], []).append(window[0])
        spans = [window + sign for sign in behind.get(window[1:], ())]
        spans.extend([sign + window for sign in ahead.get(window[:-1], ())])
        for moved in _moved_inside(news, [window]) + _moved_ends(news, spans):
            if moved not in known:
                known[moved] = True
                waiting.append(moved)
    return tuple(sorted(known))


def many_lines(task, table, towers):
    """How many LINES of so many towers FIT a TABLE."""
    need_task(task)
    need_table(task, table)
    need_integer(towers, 1, MOST_TOWERS, "the number of towers")
    if not table:
        return 0
    edge = len(table[0]) - 1
    steps = [(window[:-1], window[1:]) for window in table]
    counts = {"<" * edge: 1}
    for _ in range(towers + edge):
        later = {}
        for ahead, behind in steps:
            if ahead in counts:
                later[behind] = later.get(behind, 0) + counts[ahead]
        counts = later
    return counts.get(">" * edge, 0)
