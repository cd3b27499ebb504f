"""Alphabets of arms that turn about one peg: point [9]."""

from itertools import permutations

from towerline.errors import BadAlphabet, OutOfPlace
from towerline.kinds import CODE_SIGNS, is_integer, is_text, is_tuple

MOST_ARMS = 3
LEAST_PAIRS = 2
MOST_PAIRS = 40
DIRECTIONS = 8
MOST_TEXT = 200


def need_alphabet(thing):
    """The thing itself, if it is an ALPHABET; else the first wrong part is told."""
    if not is_tuple(thing, 2, 2):
        raise BadAlphabet("form")
    arms, signs = thing
    if not is_integer(arms, 1, MOST_ARMS):
        raise BadAlphabet("arms")
    if not is_tuple(signs, LEAST_PAIRS, MOST_PAIRS) or not all([is_tuple(pair, 2, 2) for pair in signs]):
        raise BadAlphabet("signs")
    if not _are_letters([letter for letter, _ in signs]):
        raise BadAlphabet("letter")
    if not all([_is_pose(arms, pose) for _, pose in signs]):
        raise BadAlphabet("pose")
    if len(_letters_seen(signs)) < len(signs):
        raise BadAlphabet("same")
    return thing


def _are_letters(things):
    """Whether some things are LETTERS, each greater than the one ahead."""
    ahead = ""
    for thing in things:
        if not isinstance(thing, str) or len(thing) != 1 or thing <= ahead or thing not in CODE_SIGNS:
            return False
        ahead = thing
    return True


def _is_pose(arms, thing):
    """Whether a thing is a POSE of so many arms."""
    if not is_tuple(thing, arms, arms):
        return False
    least = 0
    for direction in thing:
        if not is_integer(direction, least, DIRECTIONS - 1):
            return False
        least = direction
    return True


def _seen_of(directions):
    """The ascending tuple of some directions, each of them once."""
    return tuple(sorted(set(directions)))


def _letters_seen(signs):
    """For the SEEN directions of each pair of an ALPHABET its LETTER."""
    return {_seen_of(pose): letter for letter, pose in signs}


def _need_letter(alphabet, letter):
    """Refuse what is no LETTER of an ALPHABET."""
    if not isinstance(letter, str) or letter not in [known for known, _ in alphabet[1]]:
        raise OutOfPlace("the letter is none of the alphabet")


def _need_letters(alphabet, text):
    """Refuse what is no string of at most 200 LETTERS of an ALPHABET."""
    if not is_text(text, "".join([letter for letter, _ in alphabet[1]]), MOST_TEXT):
        raise OutOfPlace(f"the text is no string of at most {MOST_TEXT} letters of the alphabet")


def _are_directions(thing):
    """Whether a thing is an ascending tuple of directions, at most as many as there can be arms."""
    if not is_tuple(thing, 1, MOST_ARMS):
        return False
    # Two of them that are alike are no ascending ones.
    return _is_pose(len(thing), thing) and len(set(thing)) == len(thing)


def seen(alphabet, letter):
    """The ascending tuple of the directions that are SEEN of a LETTER."""
    need_alphabet(alphabet)
    _need_letter(alphabet, letter)
    poses = dict(alphabet[1])
    return _seen_of(poses[letter])


def letter_seen(alphabet, directions):
    """The LETTER of which these directions are SEEN, or None."""
    need_alphabet(alphabet)
    if not _are_directions(directions):
        raise OutOfPlace(f"the directions are no ascending tuple of 1 to {MOST_ARMS} directions")
    return _letters_seen(alphabet[1]).get(directions)


def _letters_behind(alphabet):
    """For each LETTER the one as which it is READ BEHIND, or None."""
    letters = _letters_seen(alphabet[1])
    return {
        letter: letters.get(_seen_of([(DIRECTIONS - direction) % DIRECTIONS for direction in pose]))
        for letter, pose in alphabet[1]
    }


def behind(alphabet, letter):
    """The LETTER as which a LETTER is READ BEHIND, or None."""
    need_alphabet(alphabet)
    _need_letter(alphabet, letter)
    return _letters_behind(alphabet)[letter]


def read_behind(alphabet, text):
    """The text as it is READ BEHIND, or None if some LETTER is none."""
    need_alphabet(alphabet)
    _need_letters(alphabet, text)
    letters = _letters_behind(alphabet)
    found = [letters[letter] for letter in text]
    if None in found:
        return None
    return "".join(found)


def _turn(one, other):
    """The TURN from a direction to another one."""
    way = abs(one - other)
    return min(way, DIRECTIONS - way)


def _move_between(one, other):
    """The MOVE from a POSE to another one of as many arms."""
    return min([
        sum([_turn(one[at], other[order[at]]) for at in range(len(one))])
        for order in permutations(range(len(one)))
    ])


def move(alphabet, one, other):
    """The MOVE between two LETTERS."""
    need_alphabet(alphabet)
    _need_letter(alphabet, one)
    _need_letter(alphabet, other)
    poses = dict(alphabet[1])
    return _move_between(poses[one], poses[other])


def work(alphabet, text):
    """The WORK of a text: the sum of the MOVES between its LETTERS that follow one another."""
    need_alphabet(alphabet)
    _need_letters(alphabet, text)
    poses = dict(alphabet[1])
    steps = [text[at:at + 2] for at in range(len(text) - 1)]
    moves = {step: _move_between(poses[step[0]], poses[step[1]]) for step in sorted(set(steps))}
    return sum([moves[step] for step in steps])
