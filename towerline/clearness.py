"""Whether a book is clear, and papers on it: point [10].

Where two unlike TELLINGS begin alike as they are SENT, one of them is a rest
ahead of the other one. The next CODE goes behind the other one, and leaves a
rest again, or nothing: then both are SENT as the same row.
"""

from heapq import heappop, heappush

from towerline.books import MOST_CODE, is_telling, need_book, row_of
from towerline.errors import BadPaper
from towerline.kinds import CODE_SIGNS, is_ascending, is_short_word
from towerline.papers import paper_word

TWO_WORD = "two"
CLEAR_WORD = "clear"


def is_clear(book):
    """Whether a BOOK is CLEAR."""
    need_book(book)
    return "" not in _rests_of(_codes_of(book))


def _codes_of(book):
    """The CODES of a BOOK."""
    return [code for _, code in book]


def _first_rests(codes):
    """What CODES have beyond other ones with which they begin."""
    return [code[len(other):] for code in codes for other in codes if code != other and code.startswith(other)]


def _next_rests(codes, rest):
    """What the longer one has beyond, where a rest begins with a CODE, or a CODE with it."""
    found = [rest[len(code):] for code in codes if rest.startswith(code)]
    found.extend([code[len(rest):] for code in codes if code.startswith(rest)])
    return found


def _rests_of(codes):
    """All rests to which CODES lead, as a dict of True; nothing is one, too."""
    waiting = _first_rests(codes)
    found = {rest: True for rest in waiting}
    while waiting:
        rest = waiting.pop()
        # Behind nothing all begins anew.
        if rest == "":
            continue
        for later in _next_rests(codes, rest):
            if later not in found:
                found[later] = True
                waiting.append(later)
    return found


def _shortest_two(book):
    """Two unlike TELLINGS that are SENT as the same row, with as few signs as any, of a BOOK that is not CLEAR."""
    codes = _codes_of(book)
    # Of each beginning: how many signs the one ahead has, its rest, the one ahead, the other one.
    queue = []
    for ahead in range(len(codes)):
        for behind in range(len(codes)):
            if ahead != behind and codes[ahead].startswith(codes[behind]):
                rest = codes[ahead][len(codes[behind]):]
                heappush(queue, (len(codes[ahead]), rest, (ahead,), (behind,)))
    done = {}
    while queue[0][1] != "":
        length, rest, ahead, behind = heappop(queue)
        if rest in done:
            continue
        done[rest] = True
        for number in range(len(codes)):
            code = codes[number]
            longer = behind + (number,)
            if rest.startswith(code):
                heappush(queue, (length, rest[len(code):], ahead, longer))
            elif code.startswith(rest):
                heappush(queue, (length + len(code) - len(rest), code[len(rest):], longer, ahead))
    return queue[0][2:]


def clear_paper(book):
    """A paper on whether a BOOK is CLEAR: ("two", ONE, OTHER) or ("clear", RESTS)."""
    need_book(book)
    rests = _rests_of(_codes_of(book))
    if "" not in rests:
        return (CLEAR_WORD, tuple(sorted(rests)))
    one, other = _shortest_two(book)
    return (TWO_WORD, one, other)


def check_clear(book, paper):
    """The word of a paper on whether a BOOK is CLEAR, if it is as told."""
    need_book(book)
    word = paper_word(paper, TWO_WORD, CLEAR_WORD)
    if word == TWO_WORD:
        holds = _are_two(book, paper[1], paper[2])
    else:
        holds = _are_rests(_codes_of(book), paper[1])
    if not holds:
        raise BadPaper(word)
    return word


def _are_two(book, one, other):
    """Whether two things are unlike TELLINGS that are SENT as the same row."""
    if not is_telling(book, one) or not is_telling(book, other):
        return False
    return one != other and row_of(book, one) == row_of(book, other)


def _are_rests(codes, thing):
    """Whether a thing is a tuple of RESTS."""
    if not isinstance(thing, tuple) or not all([is_short_word(rest, CODE_SIGNS, MOST_CODE) for rest in thing]):
        return False
    if not is_ascending(thing):
        return False
    wanted = _first_rests(codes)
    for rest in thing:
        wanted.extend(_next_rests(codes, rest))
    # Of one that is a CODE nothing is left, and this is never among them.
    return len(set(wanted) - set(thing)) == 0
