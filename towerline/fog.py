"""Rows that come of rows in fog: point [13]."""

from math import comb

from towerline.errors import BadPaper
from towerline.kinds import CODE_SIGNS, is_text, is_tuple, is_whole, need_integer, need_text

MOST_LETTERS = 40
MOST_ROW = 60
MOST_SENT = 120
MOST_LENGTH = 300


def can_come(row, sent):
    """Whether a row can COME of another one, sent."""
    need_text(row, MOST_ROW, "the row")
    need_text(sent, MOST_SENT, "what is sent")
    return _comes_of(row, sent)


def _comes_of(row, sent):
    """Whether a row is another one with some signs left out."""
    at = 0
    for sign in row:
        # The first place at which a sign stands leaves the most for those behind it.
        found = sent.find(sign, at)
        if found < 0:
            return False
        at = found + 1
    return True


def many_sent(letters, length, signs):
    """MANY SENT: of how many rows of so many signs a row of a length can COME."""
    need_integer(letters, 1, MOST_LETTERS, "the number of letters")
    need_integer(length, 0, MOST_LENGTH, "the length")
    need_integer(signs, 0, MOST_LENGTH, "the number of signs")
    # A row of one sign alone can COME of all rows that have this sign often
    # enough: all other places of these have any of the other letters.
    many = 0
    ways = 1
    for others in range(signs - length + 1):
        many += comb(signs, others) * ways
        ways *= letters - 1
    return many


def _shortest_table(row, other):
    """For all numbers of first signs of two rows the length of a shortest row of which both can COME."""
    table = [list(range(len(other) + 1))]
    for sign in row:
        ahead = table[-1]
        here = [ahead[0] + 1]
        for at in range(len(other)):
            if other[at] == sign:
                here.append(ahead[at] + 1)
            else:
                here.append(min(ahead[at + 1], here[at]) + 1)
        table.append(here)
    return table


def _row_by(row, other, table):
    """A shortest row of which two rows can COME, by the table of the lengths of such."""
    signs = []
    one = len(row)
    two = len(other)
    while one > 0 and two > 0:
        if row[one - 1] == other[two - 1]:
            one -= 1
            two -= 1
            signs.append(row[one])
        elif table[one - 1][two] < table[one][two - 1]:
            one -= 1
            signs.append(row[one])
        else:
            two -= 1
            signs.append(other[two])
    return row[:one] + other[:two] + "".join(signs[::-1])


def _need_rows(row, other):
    """Refuse what are no two rows."""
    need_text(row, MOST_ROW, "the row")
    need_text(other, MOST_ROW, "the other row")


def least_one(row, other):
    """The LEAST ONE of two rows."""
    _need_rows(row, other)
    return _shortest_table(row, other)[-1][-1]


def one_row(row, other):
    """A shortest row of which both rows can COME."""
    _need_rows(row, other)
    return _row_by(row, other, _shortest_table(row, other))


def row_paper(row, other):
    """A paper on the LEAST ONE of two rows: (ROW, TABLE)."""
    _need_rows(row, other)
    table = _shortest_table(row, other)
    return (_row_by(row, other, table), tuple([tuple(numbers) for numbers in table]))


def check_row(row, other, paper):
    """The LEAST ONE of two rows, if a paper on it is as told."""
    _need_rows(row, other)
    if not is_tuple(paper, 2, 2):
        raise BadPaper("form")
    one, table = paper
    if not is_text(one, CODE_SIGNS, MOST_SENT) or not _comes_of(row, one) or not _comes_of(other, one):
        raise BadPaper("row")
    if not _is_table(row, other, table) or table[-1][-1] != len(one):
        raise BadPaper("table")
    return len(one)


def _is_table(row, other, thing):
    """Whether a thing is a TABLE for two rows, whatever the last number of it is."""
    if not is_tuple(thing, len(row) + 1, len(row) + 1):
        return False
    for numbers in thing:
        if not is_tuple(numbers, len(other) + 1, len(other) + 1) or not all([is_whole(number) for number in numbers]):
            return False
    return _are_bounds(row, other, thing)


def _are_bounds(row, other, table):
    """Whether no number of what has the form of a TABLE is more than those with one less let it be."""
    if table[0][0] > 0:
        return False
    for numbers in table:
        if any([numbers[at + 1] > numbers[at] + 1 for at in range(len(other))]):
            return False
    for sign, ahead, here in zip(row, table, table[1:]):
        if any([here[at] > ahead[at] + 1 for at in range(len(here))]):
            return False
        if any([here[at + 1] > ahead[at] + 1 for at in range(len(other)) if other[at] == sign]):
            return False
    return True
