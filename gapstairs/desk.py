"""A desk at which a yard is told what to do, and asked, in lines of words (point 115)."""

from gapstairs.deskwords import deed_from, text_of_stairs
from gapstairs.errors import BadLine, BadYard, GapError
from gapstairs.scenes import is_word
from gapstairs.yard import Yard, do_deed


def done_by(yard, line):
    """Whether the line is that of a deed, or takes one back or does it again: it is done then."""
    deed = deed_from(line)
    if line == "undo":
        yard.undo()
    elif line == "redo":
        yard.redo()
    elif deed is not None:
        do_deed(yard, deed)
    return line in ("undo", "redo") or deed is not None


def changes_text(changes):
    """What the last deed has changed, as text."""
    told = [
        " ".join([one, other, text_of_stairs(changes[(one, other)][0]), "to", text_of_stairs(changes[(one, other)][1])])
        for one, other in changes
    ]
    return "; ".join(told) if told else "nothing"


def sure_text(known):
    if known is None:
        return "perhaps"
    return "yes" if known else "no"


def told_by(yard, line):
    """The answer to a question; None if the line is none."""
    if line == "changed":
        return changes_text(yard.changed())
    words = line.split(" ")
    if len(words) != 3 or not is_word(words[1]) or not is_word(words[2]):
        return None
    if words[0] == "stairs":
        return text_of_stairs(yard.stairs_of(words[1], words[2]))
    if words[0] == "lived":
        return text_of_stairs(yard.lived(words[1], words[2]))
    return sure_text(yard.sure(words[1], words[2])) if words[0] == "sure" else None


def answer_to(yard, line):
    """What is said to the line; an error if it cannot be done."""
    if done_by(yard, line):
        return "done"
    told = told_by(yard, line)
    return "what" if told is None else told


class Desk:
    """A yard that is told and asked line by line."""

    def __init__(self, yard):
        if not isinstance(yard, Yard):
            raise BadYard("yard is a Yard")
        self.yard = yard

    def say(self, line):
        """What is said to a line, which is done on the yard if it is a deed."""
        if not isinstance(line, str):
            raise BadLine("a line is a string")
        try:
            return answer_to(self.yard, line)
        except GapError:
            return "refused"
