"""Whether BAD LINES can come, and papers on it: point [5]."""

from towerline.errors import BadPaper
from towerline.papers import first_run, first_table, is_table_that, paper_word, run_lead
from towerline.rules import has_bad, need_task
from towerline.runs import shortest_bad
from towerline.windows import least_table, need_size, threes_in

RUN_WORD = "wrong"
TABLE_WORD = "sound"


def is_sound(task, size):
    """Whether no BAD LINE FITS the TABLE of this SIZE."""
    need_task(task)
    need_size(size)
    return _keeps_bad_off(task, least_table(task, size))


def _keeps_bad_off(task, living):
    """Whether no BAD LINE FITS a TABLE whose WINDOWS are all ALIVE."""
    # The strings of BAD are no longer than three, so each of them that stands
    # in a WHOLE stands in three of its signs, of which a tower is the middle one.
    text = " ".join(threes_in(living))
    return not any([word in text for word in task[3]])


def sound_paper(task):
    """A paper on BAD LINES: ("sound", TABLE), ("wrong", LINE, MOVES), or None."""
    need_task(task)
    table = first_table(task, _keeps_bad_off)
    if table is not None:
        return (TABLE_WORD, table)
    run = first_run(task, shortest_bad)
    if run is not None:
        line, codes = run
        return (RUN_WORD, line, codes)
    return None


def check_sound(task, paper):
    """The word of a paper on BAD LINES that is as told."""
    need_task(task)
    word = paper_word(paper, RUN_WORD, TABLE_WORD)
    if word == TABLE_WORD:
        holds = is_table_that(task, paper[1], _keeps_bad_off)
    else:
        line = run_lead(task, paper[1], paper[2])
        holds = line is not None and has_bad(task, line)
    if not holds:
        raise BadPaper(word)
    return word
