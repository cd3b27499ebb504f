"""Tasks for the tests, things of wrong kinds, and slow, plain answers to compare with."""

import itertools


def all_pairs(signs):
    """All PAIRS over these SIGNS."""
    return tuple(sorted({one + two for one in "<" + signs for two in ">" + signs} - {"<>"}))


# A sign "b" goes from the first tower to the last one, then the line rests.
SPREAD = (
    "ab",
    (("b", "a", ">ab", "b"),),
    ("<b", "a>", "aa", "b>", "ba"),
    ("ab",),
    ("<b", "b>", "bb"),
)

# The same, but no line is an END, and the full one is BAD.
SPREAD_BAD = ("ab", SPREAD[1], SPREAD[2], ("<bb", "bb>"), ())

# Each tower may change for ever; two rules do the same.
RING = (
    "ab",
    (("<ab", "a", ">ab", "b"), ("<ab", "b", ">ab", "a"), ("<ab", "a", ">ab", "b")),
    ("<a", "a>", "aa"),
    ("b",),
    (),
)

# One tower only: rules that want both edges.
ALONE = ("xyz", (("<", "x", ">", "y"), ("<", "y", ">", "z")), ("<x", "x>", "xx"), ("<z>",), ("<z", "z>"))

# Edges count: the first tower and the last one move by rules of their own.
EDGES = (
    "abc",
    (("<", "a", "abc", "b"), ("abc", "a", ">", "c"), ("b", "a", "c", "b"), ("b", "a", "a", "c")),
    ("<a", "a>", "aa"),
    ("<bc", "acb", "bb"),
    ("<b", "bb", "bc", "c>"),
)

NO_STARTS = ("ab", RING[1], (), ("a",), ())

# Pairs of which no START can be made: nothing leads to ">".
DEAD_STARTS = ("ab", RING[1], ("<a", "aa", "ab", "ba", "bb"), ("a",), ())

LEAST = ("yz", (("<", "y", ">", "z"),), (), (), ())

GREATEST = (
    "abcdez",
    tuple(("<abcdez", own, ">abcdez", new) for own in "abcdez" for new in "abcdez" if own != new)[:24],
    all_pairs("abcdez"),
    ("<a", "<a>", "<ab", "a", "a>", "aaa", "ab", "ab>", "abc", "b", "z>", "zzz"),
    all_pairs("abcdez"),
)

# "i" alone never stands, which windows of size 2 do not tell, those of size 3 do.
SOUND_3 = ("is", (("<i", "s", ">is", "i"),), ("<i", "is", "s>"), ("<i>",), ())

# Only windows of size 4 tell that "ee" never stands at the last tower.
SOUND_4 = (
    "ew",
    (("<", "e", ">w", "w"), ("<ew", "w", "w", "e"), ("w", "w", ">ew", "e")),
    ("<e", "ew", "w>", "we"),
    ("ee>",),
    ("<w", "ew", "ww"),
)

# "kyk" never comes, but lines with it fit the tables of all sizes.
UNTOLD = ("ky", (("k", "y", "y", "k"), ("<k", "k", ">y", "y")), ("<y", "k>", "kk", "y>", "yk", "yy"), ("kyk",), ("yy",))

# The lines that can never move have all towers in "b"; as ends they are told by size 3, and by size 4 alone.
FREE_3 = (
    "bg",
    (("bg", "b", ">g", "g"), ("g", "g", ">bg", "b"), ("<bg", "b", "g", "g")),
    ("<b", "b>", "bg", "g>", "gb"),
    ("gb",),
    ("<b", "<g", "b>", "bb"),
)
FREE_4 = (
    "st",
    (("<", "t", ">t", "s"), ("t", "t", ">st", "s"), ("<", "s", "st", "t"), ("t", "s", ">s", "t")),
    ("<s", "st", "t>", "ts"),
    ("ts",),
    ("<s", "s>", "tt"),
)

# Nothing moves; the bad and stuck starts have six towers, or seven, at least.
LONG_6 = ("abcde", (("<", "b", ">", "a"),), ("<a", "a>", "ab", "bc", "cd", "de", "ea"), ("ea",), ("<a", "a>"))
LONG_7 = (
    "abcdef", LONG_6[1], ("<a", "a>", "ab", "bc", "cd", "de", "ef", "fa"), ("fa",), ("<a", "a>", "ab", "bc"),
)

SAMPLES = (
    SPREAD, SPREAD_BAD, RING, ALONE, EDGES, NO_STARTS, DEAD_STARTS, LEAST, SOUND_3, SOUND_4, UNTOLD, FREE_3, FREE_4,
)


class Odd:
    """A thing that is like nothing else and may not be asked anything."""

    def __eq__(self, other):
        raise RuntimeError("compared")

    def __len__(self):
        raise RuntimeError("measured")

    def __iter__(self):
        raise RuntimeError("gone through")

    def __bool__(self):
        raise RuntimeError("tested")

    __hash__ = None


def odd_things():
    """Things that are none of: a task, a line, a size, a number of towers, a table, a move, moves."""
    return [
        None, True, False, -1, 2.0, 3.5, 1j, b"ab", "A", "a b", " ", "\n", "<", ">", "<>", "a1",
        [], ["ab"], {}, {"ab": 1}, set(), frozenset(), range(3), iter([]), len, int, object(), Odd(),
        (None,), (1, 2, 3), (("a",),), ([],), Ellipsis, 10 ** 999, -10 ** 999, bytearray(b"ab"),
    ]


def replaced(task, part, thing):
    """A task with another thing as one of its parts."""
    return task[:part] + (thing,) + task[part + 1:]


def lines_up_to(signs, most):
    """All LINES of at most so many towers."""
    return [
        "".join(line)
        for towers in range(1, most + 1)
        for line in itertools.product(signs, repeat=towers)
    ]


def slow_moves(task, line):
    """All MOVES, straight by the words of the document."""
    found = []
    for tower, own in enumerate(line):
        left = line[tower - 1] if tower > 0 else "<"
        right = line[tower + 1] if tower + 1 < len(line) else ">"
        for number, rule in enumerate(task[1]):
            if left in tuple(rule[0]) and own == rule[1] and right in tuple(rule[2]):
                found.append((tower, number))
    return tuple(found)


def slow_after(task, line, move):
    """The LINE behind a MOVE."""
    signs = list(line)
    signs[move[0]] = task[1][move[1]][3]
    return "".join(signs)


def slow_is_of(pairs, line):
    """Whether a LINE is of some PAIRS."""
    whole = "<" + line + ">"
    return {one + two for one, two in zip(whole, whole[1:])} <= set(pairs)


def slow_is_bad(task, line):
    """Whether a LINE is BAD."""
    return any(word in "<" + line + ">" for word in task[3])


def slow_is_stuck(task, line):
    """Whether a LINE is STUCK."""
    return not slow_moves(task, line) and not slow_is_of(task[4], line)


def slow_windows(size, line):
    """The set of the WINDOWS of a LINE."""
    padded = "<" * (size - 1) + line + ">" * (size - 1)
    return {padded[at:at + size] for at in range(len(padded) - size + 1)}


def all_windows(signs, size):
    """All WINDOWS of a SIZE, ascending."""
    return tuple(sorted({
        "<" * ahead + "".join(inner) + ">" * (size - ahead - len(inner))
        for ahead in range(size)
        for many in range(1, size - ahead + 1)
        for inner in itertools.product(signs, repeat=many)
    }))


def slow_alive(table, lines):
    """The TABLE of the WINDOWS that stand in some of the lines that FIT."""
    found = set()
    for line in lines:
        windows = slow_windows(len(table[0]), line) if table else {""}
        if windows <= set(table):
            found |= windows
    return tuple(sorted(found))


def slow_is_closed(task, size, table, lines):
    """Whether a TABLE is CLOSED as far as these lines tell."""
    known = set(table)
    for line in lines:
        windows = slow_windows(size, line)
        if slow_is_of(task[2], line) and not windows <= known:
            return False
        if windows <= known:
            for move in slow_moves(task, line):
                if not slow_windows(size, slow_after(task, line, move)) <= known:
                    return False
    return True


def slow_table(task, size, lines):
    """The TABLE of a TASK as far as these lines tell."""
    known = set()
    before = None
    while before != known:
        before = set(known)
        for line in lines:
            windows = slow_windows(size, line)
            if slow_is_of(task[2], line):
                known |= windows
            if windows <= before:
                for move in slow_moves(task, line):
                    known |= slow_windows(size, slow_after(task, line, move))
    return tuple(sorted(known))


def slow_fitting(size, table, signs, most):
    """All LINES of at most so many towers that FIT a TABLE of this SIZE, those with fewer towers first."""
    known = set(table)
    found = []
    ahead = [""]
    for _ in range(most):
        longer = [line + sign for line in ahead for sign in signs]
        # A beginning of a LINE that FITS has only WINDOWS of the TABLE, but for those with ">".
        ahead = [line for line in longer if {one for one in slow_windows(size, line) if ">" not in one} <= known]
        found += [line for line in ahead if slow_windows(size, line) <= known]
    return found


def slow_distances(task, towers):
    """For each LINE that COMES the least number of MOVES to it."""
    lines = ["".join(line) for line in itertools.product(task[0], repeat=towers)]
    found = {line: 0 for line in lines if slow_is_of(task[2], line)}
    fresh = list(found)
    while fresh:
        later = []
        for line in fresh:
            for move in slow_moves(task, line):
                beyond = slow_after(task, line, move)
                if beyond not in found:
                    found[beyond] = found[line] + 1
                    later.append(beyond)
        fresh = later
    return found


def slow_longest(task, line, ahead=()):
    """The greatest number of MOVES from a LINE on, or None if a LINE comes back."""
    if line in ahead:
        return None
    most = 0
    for move in slow_moves(task, line):
        more = slow_longest(task, slow_after(task, line, move), ahead + (line,))
        if more is None:
            return None
        most = max(most, more + 1)
    return most


def slow_beat(task, line):
    """The LINE behind one BEAT."""
    shown = list(line)
    # Of several rules at one tower the first one is taken last here, so it stays.
    for tower, number in reversed(slow_moves(task, line)):
        shown[tower] = task[1][number][3]
    return "".join(shown)


def slow_orbit(task, line):
    """All unlike LINES behind 0 BEATS and more, and the number of the one that comes again."""
    found = []
    while line not in found:
        found.append(line)
        line = slow_beat(task, line)
    return found, found.index(line)


def slow_many_runs(task, towers, count):
    """How many RUNS with so many MOVES there are."""
    level = {line: 1 for line, far in slow_distances(task, towers).items() if far == 0}
    for _ in range(count):
        later = {}
        for line, ways in level.items():
            for move in slow_moves(task, line):
                beyond = slow_after(task, line, move)
                later[beyond] = later.get(beyond, 0) + ways
        level = later
    return sum(level.values())


def drawn_task(draw, many):
    """A task with so many SIGNS, drawn by a random.Random."""
    signs = "".join(sorted(draw.sample("abcdefghijklmnopqrstuvwxyz", many)))
    rules = []
    for _ in range(draw.randint(1, 4)):
        own, new = draw.sample(signs, 2)
        rules.append((_some(draw, "<" + signs), own, _some(draw, ">" + signs), new))
    pairs = all_pairs(signs)
    share = draw.choice([0.3, 0.5, 0.8])
    starts = tuple(pair for pair in pairs if draw.random() < share)
    ends = tuple(pair for pair in pairs if draw.random() < 0.5)
    words = sorted({pair.strip("<>") for pair in pairs} | set(pairs) | {"<" + signs[0] + ">", signs[:2] + ">"})
    bad = tuple(sorted(draw.sample(words, draw.randint(0, 3))))
    return (signs, tuple(rules), starts, bad, ends)


def _some(draw, signs):
    """Some of the signs, ascending, at least one."""
    kept = "".join(sorted(sign for sign in signs if draw.random() < 0.6))
    return kept or draw.choice(signs)
