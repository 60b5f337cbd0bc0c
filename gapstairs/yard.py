"""A yard: a drawing that changes under promises, with all that is done to it (point 114)."""

from gapstairs.drawings import Drawing, check_drawing
from gapstairs.errors import BadGoal, NothingDone, NothingUndone, TooMany
from gapstairs.rebuilding import rebuilding_by, works_between
from gapstairs.records import patches_of, surely
from gapstairs.scenes import (
    Scene, after_deed, as_logged, check_words, drawing_now, stairs_at, told_promises,
)
from gapstairs.seasons import MOST_SEASONS, stairs_over


def do_deed(yard, deed):
    """Do a deed of the form of the log on a yard; nothing is changed if it cannot be done."""
    later = after_deed(yard.scenes[-1], deed)
    yard.scenes.append(later)
    yard.deeds.append(as_logged(deed))
    yard.undone = []


def changed_stairs(before, now):
    """The dict from the pairs of words of both Scenes whose staircases are not equal to the pair of both."""
    words = sorted([word for word in before.spots if word in now.spots])
    found = {}
    for k, one in enumerate(words):
        for other in words[k + 1:]:
            pair = (stairs_at(before, one, other), stairs_at(now, one, other))
            if pair[0] != pair[1]:
                found[(one, other)] = pair
    return found


class Yard:
    """A drawing, words for spots, promises and notes, and all deeds that have been done."""

    def __init__(self, drawing):
        check_drawing(drawing)
        self.scenes = [Scene([drawing], {}, {}, [])]
        self.deeds = []
        self.undone = []

    def __eq__(self, other):
        if not isinstance(other, Yard):
            return False
        here, there = self.scenes[-1], other.scenes[-1]
        if here.past[-1] != there.past[-1] or here.spots != there.spots:
            return False
        return here.sworn == there.sworn and here.felt == there.felt

    def __len__(self):
        return len(self.deeds)

    def name(self, word, spot):
        """Let a word name a spot."""
        do_deed(self, ("name", word, spot))

    def drop(self, word):
        """Let a word stand no more."""
        do_deed(self, ("drop", word))

    def put(self, block):
        """Put a block."""
        do_deed(self, ("put", block))

    def take(self, block):
        """Take a block."""
        do_deed(self, ("take", block))

    def slide(self, block, side, by):
        """Let a block slide."""
        do_deed(self, ("slide", block, side, by))

    def promise(self, one, other, low, high):
        """Promise that the bodies of low get from word to word, and none beyond high."""
        do_deed(self, ("promise", one, other, low, high))

    def release(self, one, other):
        """Take back the promise for two words."""
        do_deed(self, ("release", one, other))

    def note(self, word, row, felt):
        """Note what was felt along a row from the spot of a word on."""
        do_deed(self, ("note", word, row, felt))

    def attempt(self, deeds):
        """Do all deeds as one, or none."""
        do_deed(self, ("attempt", deeds))

    def undo(self):
        """Take back the last deed that stands."""
        if self.deeds == []:
            raise NothingDone("no deed stands")
        self.undone.append((self.deeds.pop(), self.scenes.pop()))

    def redo(self):
        """Do again what was taken back last."""
        if self.undone == []:
            raise NothingUndone("nothing was taken back")
        deed, scene = self.undone.pop()
        self.deeds.append(deed)
        self.scenes.append(scene)

    def log(self):
        """The list of the deeds that stand."""
        return list(self.deeds)

    def drawing(self):
        """The Drawing that stands."""
        return drawing_now(self.scenes[-1])

    def names(self):
        """The ascending dict from words to spots."""
        spots = self.scenes[-1].spots
        return {word: spots[word] for word in sorted(list(spots))}

    def promises(self):
        """The ascending dict from pairs of words to pairs of staircases."""
        sworn = self.scenes[-1].sworn
        return {pair: sworn[pair] for pair in sorted(list(sworn))}

    def notes(self):
        """The list of the pairs of a Drawing and a record."""
        return list(self.scenes[-1].felt)

    def calendar(self):
        """The list of all Drawings from the beginning on."""
        return list(self.scenes[-1].past)

    def stairs_of(self, one, other):
        """The staircase of the bodies that get between two words."""
        check_words(self.scenes[-1], one, other)
        return stairs_at(self.scenes[-1], one, other)

    def sure(self, one, other):
        """What the notes tell of the body: whether it gets between two words; None if they do not tell."""
        check_words(self.scenes[-1], one, other)
        return surely(patches_of(self.scenes[-1].felt), stairs_at(self.scenes[-1], one, other))

    def lived(self, one, other):
        """The staircase of the bodies that were at one in the beginning and can be at other now."""
        scene = self.scenes[-1]
        check_words(scene, one, other)
        if len(scene.past) > MOST_SEASONS:
            raise TooMany(MOST_SEASONS)
        return stairs_over(scene.past, scene.spots[one], scene.spots[other])

    def plan(self, goal):
        """A rebuilding of the drawing into goal by the promises; None if there is none."""
        if not isinstance(goal, Drawing):
            raise BadGoal("goal is a Drawing")
        drawing = drawing_now(self.scenes[-1])
        works = works_between(drawing, goal, told_promises(self.scenes[-1]))
        return rebuilding_by(works, drawing, goal)

    def changed(self):
        """For the last deed that stands, the pairs of words whose staircases it has changed, with both."""
        if self.deeds == []:
            return {}
        return changed_stairs(self.scenes[-2], self.scenes[-1])
