import unittest

from treeasks import errors

BY_NUMBER = (errors.NoAsks, errors.NoKeep, errors.NoPrices, errors.NoShare)
BY_TEXT = (errors.NoNumber, errors.NoPlace, errors.NoChange, errors.TooMany, errors.NoRow, errors.NoName)
ALL = BY_NUMBER + BY_TEXT + (errors.NoTree, errors.NoPointing, errors.NoText)


class Bases(unittest.TestCase):
    def test_ask_error_stands_straight_under_value_error(self):
        self.assertEqual(errors.AskError.__bases__, (ValueError,))

    def test_each_class_stands_straight_under_ask_error(self):
        for kind in ALL:
            with self.subTest(kind=kind):
                self.assertEqual(kind.__bases__, (errors.AskError,))

    def test_no_class_is_another_one(self):
        self.assertEqual(len(set(ALL)), 13)
        for kind in ALL:
            for other in ALL:
                if kind is not other:
                    self.assertFalse(issubclass(kind, other))

    def test_each_class_bears_its_name(self):
        for name in ("AskError", "NoTree", "NoAsks", "NoKeep", "NoPrices", "NoShare", "NoPointing", "NoText",
                     "NoNumber", "NoPlace", "NoChange", "TooMany", "NoRow", "NoName"):
            self.assertEqual(getattr(errors, name).__name__, name)


class Values(unittest.TestCase):
    def test_no_tree_has_part_and_number(self):
        refusal = errors.NoTree("rooms", 4)
        self.assertEqual((refusal.part, refusal.number), ("rooms", 4))
        refusal = errors.NoTree("tree", None)
        self.assertEqual((refusal.part, refusal.number), ("tree", None))

    def test_number(self):
        for kind in BY_NUMBER:
            with self.subTest(kind=kind):
                self.assertEqual(kind(7).number, 7)
                self.assertIsNone(kind(None).number)

    def test_row(self):
        self.assertEqual(errors.NoText(0).row, 0)
        self.assertEqual(errors.NoText(3).row, 3)

    def test_ring_is_a_list_of_its_own(self):
        ring = [(1, 0), (2, 1), (3, 2)]
        refusal = errors.NoPointing(ring)
        self.assertEqual(refusal.ring, ring)
        refusal.ring.append((4, 3))
        self.assertEqual(ring, [(1, 0), (2, 1), (3, 2)])
        ring.clear()
        self.assertEqual(refusal.ring, [(1, 0), (2, 1), (3, 2), (4, 3)])

    def test_made_by_a_text(self):
        for kind in BY_TEXT:
            with self.subTest(kind=kind), self.assertRaises(errors.AskError) as caught:
                raise kind("some words")
            self.assertIs(caught.exception.__class__, kind)


if __name__ == "__main__":
    unittest.main()
