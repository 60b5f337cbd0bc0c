import itertools
import unittest

from gapstairs.bodies import holds, is_body, is_corner
from gapstairs.errors import BadBody, BadCorner
from tests import helpers as h


class Bodies(unittest.TestCase):
    def test_any_value_is_judged(self):
        for value in h.any_values():
            self.assertIs(is_body(value), h.body(value), value)
            self.assertIs(is_corner(value), h.corner(value), value)

    def test_edges(self):
        self.assertTrue(is_body((1, 999999999)))
        self.assertTrue(is_corner((None, 999999999)))
        h.never(self, is_body, [(0, 1), (1, 0), (1, None), (True, 2), (2, True), [1, 1], (1,), (1, 1, 1), "11"])
        h.never(self, is_corner, [(0, None), (None, -1), (True, None), (None, False), [None, None], (None,)])

    def test_holds_item_by_item(self):
        sizes = [1, 2, 3]
        for corner in itertools.product(sizes + [None], repeat=2):
            for body in itertools.product(sizes, repeat=2):
                wanted = all(corner[k] is None or body[k] <= corner[k] for k in (0, 1))
                self.assertIs(holds(corner, body), wanted)
        self.assertIs(holds(corner=(None, 2), body=(999999999, 2)), True)

    def test_refused(self):
        h.refuse(self, holds, [("corner", BadCorner, h.corner), ("body", BadBody, h.body)], [(2, None), (1, 5)])


if __name__ == "__main__":
    unittest.main()
