"""Texts of yards (point 116)."""

from gapstairs.checks import is_rising
from gapstairs.deskwords import deed_from, is_written_block, numbers_from, numbers_text, text_of_deed
from gapstairs.drawings import MOST_BLOCKS, Drawing
from gapstairs.errors import BadText, BadYard, GapError
from gapstairs.yard import Yard, do_deed


def begin_line(drawing):
    """The line for the drawing with which a yard began."""
    return " ".join(["begin"] + [numbers_text(block, ",") for block in drawing.blocks])


def drawing_from(line):
    """The Drawing whose line it is; None if there is none."""
    words = line.split(" ")
    blocks = [numbers_from(word.split(",")) for word in words[1:]]
    if words[0] != "begin" or len(blocks) > MOST_BLOCKS:
        return None
    return Drawing(blocks) if all([is_written_block(block) for block in blocks]) and is_rising(blocks) else None


def is_done_on(yard, line):
    """Whether the line is that of a deed that can be done: it is done then."""
    deed = deed_from(line)
    if deed is None:
        return False
    try:
        do_deed(yard, deed)
    except GapError:
        return False
    return True


def yard_text(yard):
    """The text of the yard."""
    if not isinstance(yard, Yard):
        raise BadYard("yard is a Yard")
    return "\n".join([begin_line(yard.calendar()[0])] + [text_of_deed(deed) for deed in yard.log()])


def read_yard(text):
    """The Yard whose text it is."""
    if not isinstance(text, str):
        raise BadText(None)
    lines = text.split("\n")
    drawing = drawing_from(lines[0])
    if drawing is None:
        raise BadText(1)
    yard = Yard(drawing)
    for k, line in enumerate(lines[1:]):
        if not is_done_on(yard, line):
            raise BadText(k + 2)
    return yard
