"""What the papers of always.py and stuck.py have in common: point [5].

A paper is either a RUN to a LINE of some kind, or a CLOSED TABLE that no LINE
of this kind FITS. Those of clearness.py have words likewise.
"""

from towerline.errors import BadPaper, OutOfPlace
from towerline.kinds import is_tuple
from towerline.rules import end_of_run
from towerline.windows import LEAST_SIZE, MOST_SIZE, alive_windows, closes, is_table, least_table

MOST_PAPER_TOWERS = 6


def first_table(task, keeps_off):
    """The TABLE of the least SIZE whose WINDOWS keep LINES of some kind off, or None."""
    for size in range(LEAST_SIZE, MOST_SIZE + 1):
        table = least_table(task, size)
        if keeps_off(task, table):
            return table
    return None


def first_run(task, shortest):
    """A shortest RUN to a LINE of some kind, of the fewest towers with which there is one, or None."""
    for towers in range(1, MOST_PAPER_TOWERS + 1):
        run = shortest(task, towers)
        if run is not None:
            return run
    return None


def paper_word(paper, triple_word, pair_word):
    """The word of a paper that is a triple with the one word, or a pair with the other one."""
    if is_tuple(paper, 3, 3) and _is_string(paper[0], triple_word):
        return triple_word
    if is_tuple(paper, 2, 2) and _is_string(paper[0], pair_word):
        return pair_word
    raise BadPaper("form")


def _is_string(thing, string):
    """Whether a thing is this string."""
    return isinstance(thing, str) and thing == string


def run_lead(task, line, codes):
    """The LINE to which a RUN leads, or None of what is no RUN of at most 1,000 MOVES."""
    try:
        return end_of_run(task, line, codes)
    except OutOfPlace:
        return None


def is_table_that(task, thing, keeps_off):
    """Whether a thing is a CLOSED TABLE whose WINDOWS keep LINES of some kind off."""
    if not is_table(task[0], thing) or not closes(task, thing):
        return False
    # What is not ALIVE stands in no LINE that FITS.
    return keeps_off(task, alive_windows(thing))
