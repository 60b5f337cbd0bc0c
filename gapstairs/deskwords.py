"""Staircases and deeds as words in lines (point 115)."""

from gapstairs.bodies import is_size
from gapstairs.checks import is_number, is_number_pair
from gapstairs.drawings import is_block
from gapstairs.errors import BadDeed, BadText
from gapstairs.machines import is_move, is_senses
from gapstairs.scenes import is_deed_form, is_word
from gapstairs.slides import is_slide_number
from gapstairs.stairs import check_stairs, is_stairs, within
from gapstairs.touching import is_side

FIGURES = "0123456789"
MOST_FIGURES = 9
MOST_NUMBER = 999999999


def is_written(thing):
    """Whether it is a number of at most nine figures."""
    return is_number(thing) and -MOST_NUMBER <= thing <= MOST_NUMBER


def number_from(word):
    """The number whose word it is; None if there is none."""
    figures = word[1:] if word[:1] == "-" else word
    if not 1 <= len(figures) <= MOST_FIGURES or not all([figure in FIGURES for figure in figures]):
        return None
    number = int(word)
    return number if str(number) == word else None


def numbers_from(words):
    """The tuple of the numbers of the words; None if one is none."""
    found = [number_from(word) for word in words]
    return None if None in found else tuple(found)


def numbers_text(numbers, sign):
    return sign.join([str(number) for number in numbers])


def corner_text(corner):
    return ":".join(["-" if item is None else str(item) for item in corner])


def text_of_stairs(stairs):
    """stairs_text, for a value that is surely a staircase."""
    return ",".join([corner_text(corner) for corner in stairs]) if stairs else "none"


def corner_from(word):
    """A pair of what the two parts of the word stand for, or of what is no item of a corner."""
    parts = word.split(":")
    items = [None if part == "-" else number_from(part) or 0 for part in parts]
    return tuple(items)


def stairs_from(word):
    """The staircase whose text it is; None if there is none."""
    if word == "none":
        return ()
    stairs = tuple([corner_from(part) for part in word.split(",")])
    return stairs if is_stairs(stairs) else None


def row_text(row):
    return ",".join([".".join(move) for move in row]) if row else "none"


def row_from(word):
    """The row whose text it is; None if there is none."""
    row = () if word == "none" else tuple([tuple(part.split(".")) for part in word.split(",")])
    return row if all([is_move(move) for move in row]) else None


def felt_text(felt):
    return ",".join(["+".join(senses) if senses else "free" for senses in felt])


def felt_from(word):
    """What is felt by the text; None if that is nothing."""
    felt = tuple([() if part == "free" else tuple(part.split("+")) for part in word.split(",")])
    return felt if all([is_senses(senses) for senses in felt]) else None


def is_written_pair(thing):
    return is_number_pair(thing) and is_written(thing[0]) and is_written(thing[1])


def is_written_block(thing):
    return is_block(thing) and all([is_written(item) for item in thing])


def is_written_stairs(thing):
    """Whether it is a staircase of numbers of at most nine figures."""
    if not is_stairs(thing):
        return False
    return all([item is None or is_size(item) and is_written(item) for corner in thing for item in corner])


def are_unlike_words(one, other):
    return is_word(one) and is_word(other) and one != other


def is_right_promise(low, high):
    return is_written_stairs(low) and is_written_stairs(high) and within(low, high)


def is_right_note(row, felt):
    """Whether they are a row and what can have been felt along it, as tuples."""
    if not isinstance(row, tuple) or not isinstance(felt, tuple) or len(felt) != len(row) + 1:
        return False
    return all([is_move(move) for move in row]) and all([is_senses(senses) for senses in felt])


def is_right_attempt(deeds):
    if not isinstance(deeds, tuple) or len(deeds) == 0:
        return False
    return all([is_deed_form(deed) and deed[0] != "attempt" and is_right(deed) for deed in deeds])


def is_right_with_words(deed):
    """Whether the parts of a deed with words, which has the form of the log, are of their kinds."""
    if deed[0] == "name":
        return is_word(deed[1]) and is_written_pair(deed[2])
    if deed[0] == "drop":
        return is_word(deed[1])
    if deed[0] == "release":
        return are_unlike_words(deed[1], deed[2])
    if deed[0] == "promise":
        return are_unlike_words(deed[1], deed[2]) and is_right_promise(deed[3], deed[4])
    return is_word(deed[1]) and is_right_note(deed[2], deed[3])


def is_right(deed):
    """Whether the parts of a deed of the form of the log are of their kinds."""
    if deed[0] == "attempt":
        return is_right_attempt(deed[1])
    if deed[0] in ("put", "take"):
        return is_written_block(deed[1])
    if deed[0] == "slide":
        return is_written_block(deed[1]) and is_side(deed[2]) and is_slide_number(deed[3])
    return is_right_with_words(deed)


def is_deed(thing):
    """Whether any value is right as a deed by itself."""
    return is_deed_form(thing) and is_right(thing)


def text_of_deed(deed):
    """deed_text, for a value that is surely right as a deed."""
    head = deed[0]
    if head == "attempt":
        return head + " " + " ; ".join([text_of_deed(part) for part in deed[1]])
    if head in ("put", "take"):
        return head + " " + numbers_text(deed[1], " ")
    if head == "slide":
        return " ".join([head, numbers_text(deed[1], " "), deed[2], str(deed[3])])
    if head == "name":
        return " ".join([head, deed[1], numbers_text(deed[2], " ")])
    if head == "promise":
        return " ".join([head, deed[1], deed[2], text_of_stairs(deed[3]), text_of_stairs(deed[4])])
    if head == "note":
        return " ".join([head, deed[1], row_text(deed[2]), felt_text(deed[3])])
    return " ".join(deed)


def parts_from(head, words):
    """The list of the parts of a deed that the words behind the first one stand for, None for those that are none."""
    if head in ("put", "take"):
        return [numbers_from(words)]
    if head == "slide":
        return [numbers_from(words[:4])] + words[4:5] + [number_from(word) for word in words[5:]]
    if head == "name":
        return words[:1] + [numbers_from(words[1:])]
    if head == "promise":
        return words[:2] + [stairs_from(word) for word in words[2:]]
    if head == "note":
        return words[:1] + [row_from(word) for word in words[1:2]] + [felt_from(word) for word in words[2:]]
    return words


def single_from(line):
    """What the line would be as a deed other than an attempt, right or not."""
    words = line.split(" ")
    return tuple(words[:1] + parts_from(words[0], words[1:]))


def deed_from(line):
    """The deed whose text the line is; None if there is none."""
    head = "attempt "
    if line.startswith(head):
        deed = ("attempt", tuple([single_from(part) for part in line[len(head):].split(" ; ")]))
    else:
        deed = single_from(line)
    return deed if is_deed(deed) else None


def stairs_text(stairs):
    """The text of the staircase."""
    check_stairs(stairs)
    return text_of_stairs(stairs)


def read_stairs(text):
    """The staircase whose text it is."""
    stairs = stairs_from(text) if isinstance(text, str) else None
    if stairs is None:
        raise BadText(None)
    return stairs


def deed_text(deed):
    """The line of the deed."""
    if not is_deed(deed):
        raise BadDeed("the value is not right as a deed by itself")
    return text_of_deed(deed)


def read_deed(line):
    """The deed whose line it is."""
    deed = deed_from(line) if isinstance(line, str) else None
    if deed is None:
        raise BadText(None)
    return deed
