"""Whether LINES can be STUCK, and papers on it: point [5]."""

from towerline.errors import BadPaper
from towerline.papers import first_run, first_table, is_table_that, paper_word, run_lead
from towerline.rules import acting_rules, need_task, rests_stuck
from towerline.runs import shortest_stuck
from towerline.windows import least_table, need_size, wide_windows

RUN_WORD = "stuck"
TABLE_WORD = "free"


def is_free(task, size):
    """Whether no STUCK LINE FITS the TABLE of this SIZE."""
    need_task(task)
    need_size(size)
    return _keeps_stuck_off(task, least_table(task, size))


def stuck_line(task, size):
    """A STUCK LINE with as few towers as any that FITS the TABLE of this SIZE, or None."""
    need_task(task)
    need_size(size)
    return _shortest_stuck_line(task, least_table(task, size))


def _keeps_stuck_off(task, living):
    """Whether no STUCK LINE FITS a TABLE whose WINDOWS are all ALIVE."""
    return _shortest_stuck_line(task, living) is None


def _shortest_stuck_line(task, living):
    """A STUCK LINE with as few towers as any that FITS a TABLE whose WINDOWS are all ALIVE, or None."""
    if not living:
        return None
    steps = _resting_steps(task, living)
    edge = "<" * max(len(living[0]) - 1, 2)
    fresh = [(edge, False)]
    found = {}
    while fresh:
        later = []
        for text, is_odd in fresh:
            for sign, odd in steps.get(text[-len(edge):], []):
                longer = (text + sign, is_odd or odd)
                if sign == ">" and longer[1]:
                    return text[len(edge):]
                # Of two ways to the same last signs the shorter one, or the
                # first one, does: what may follow is the same.
                place = (longer[0][-len(edge):], longer[1])
                if sign != ">" and place not in found:
                    found[place] = True
                    later.append(longer)
        fresh = later
    return None


def _resting_steps(task, living):
    """For the last signs of a beginning the (SIGN, ODD) of all signs that may follow while no rule may act.

    ODD is whether the last sign and the one that follows are none of ENDS.
    """
    acting = acting_rules(task)
    ends = {pair: True for pair in task[4]}
    steps = {}
    for window in wide_windows(living):
        if window[-3:] not in acting:
            steps.setdefault(window[:-1], []).append((window[-1], window[-2:] not in ends))
    return steps


def free_paper(task):
    """A paper on STUCK LINES: ("free", TABLE), ("stuck", LINE, MOVES), or None."""
    need_task(task)
    table = first_table(task, _keeps_stuck_off)
    if table is not None:
        return (TABLE_WORD, table)
    run = first_run(task, shortest_stuck)
    if run is not None:
        line, codes = run
        return (RUN_WORD, line, codes)
    return None


def check_free(task, paper):
    """The word of a paper on STUCK LINES that is as told."""
    need_task(task)
    word = paper_word(paper, RUN_WORD, TABLE_WORD)
    if word == TABLE_WORD:
        holds = is_table_that(task, paper[1], _keeps_stuck_off)
    else:
        line = run_lead(task, paper[1], paper[2])
        holds = line is not None and rests_stuck(task, acting_rules(task), line)
    if not holds:
        raise BadPaper(word)
    return word
