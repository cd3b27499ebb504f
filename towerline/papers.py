"""What the papers of always.py and stuck.py have in common: point [5].

A paper is either a RUN to a LINE of some kind, or a CLOSED TABLE that no LINE
of this kind FITS.
"""

from towerline.errors import BadPaper, OutOfPlace
from towerline.kinds import is_tuple
from towerline.rules import end_of_run
from towerline.windows import LEAST_SIZE, MOST_SIZE, alive_windows, closes, is_table, least_table

MOST_PAPER_TOWERS = 6


def first_table(task, keeps_off):
    """The TABLE of the least SIZE whose WINDOWS keep LINES of some kind off, or None."""
    for size in range(LEAST_SIZE, MOST_SIZE + 1):
        table = least_table(task, size)
        if keeps_off(task, table):
            return table
    return None


def first_run(task, shortest):
    """A shortest RUN to a LINE of some kind, of the fewest towers with which there is one, or None."""
    for towers in range(1, MOST_PAPER_TOWERS + 1):
        run = shortest(task, towers)
        if run is not None:
            return run
    return None


def paper_word(paper, run_word, table_word):
    """The word of a paper, if it has the form of a RUN or of a TABLE."""
    if is_tuple(paper, 3, 3) and _is_text(paper[0], run_word):
        return run_word
    if is_tuple(paper, 2, 2) and _is_text(paper[0], table_word):
        return table_word
    raise BadPaper("form")


def _is_text(thing, text):
    """Whether a thing is this string."""
    return isinstance(thing, str) and thing == text


def run_lead(task, line, codes):
    """The LINE to which a RUN leads, or None of what is no RUN of at most 1,000 MOVES."""
    try:
        return end_of_run(task, line, codes)
    except OutOfPlace:
        return None


def is_table_that(task, thing, keeps_off):
    """Whether a thing is a CLOSED TABLE whose WINDOWS keep LINES of some kind off."""
    if not is_table(task[0], thing) or not closes(task, thing):
        return False
    # What is not ALIVE stands in no LINE that FITS.
    return keeps_off(task, alive_windows(thing))
