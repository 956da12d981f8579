import copy
import pickle
import unittest

from onceswapped import errors

PLAIN = ("NoForest", "NoPosition", "NoEdge", "NoItem", "NoArrangement", "NoOrder", "NoTurns",
         "NoObservation", "NoNumber", "Nothing")
WITH_FIELD = (("NoText", "at"), ("NotReached", "reason"), ("TooMany", "many"))
WORTHS = (0, 1, 5040, 10 ** 60, None, ("moved", 3), ("ring", [0, 2]), ("cross", (0, 1), (2, 3)))


def named(name):
    return getattr(errors, name)


class Family(unittest.TestCase):
    def test_base(self):
        self.assertEqual(errors.SwapError.__bases__, (ValueError,))

    def test_all_are_swap_errors(self):
        for name in PLAIN + tuple(name for name, field in WITH_FIELD):
            self.assertTrue(issubclass(named(name), errors.SwapError), name)
            self.assertEqual(named(name).__name__, name)

    def test_none_is_a_subclass_of_another(self):
        names = PLAIN + tuple(name for name, field in WITH_FIELD)
        self.assertEqual(len(set(named(name) for name in names)), 13)
        for one in names:
            for other in names:
                self.assertEqual(issubclass(named(one), named(other)), one == other)

    def test_defined_in_their_file(self):
        for name in ("SwapError",) + PLAIN + tuple(name for name, field in WITH_FIELD):
            self.assertEqual(named(name).__module__, "onceswapped.errors")


class Making(unittest.TestCase):
    def test_plain_ones_take_one_string(self):
        for name in ("SwapError",) + PLAIN:
            with self.assertRaises(named(name)) as caught:
                raise named(name)("these words")
            self.assertEqual(str(caught.exception), "these words")

    def test_field_by_position_and_by_name(self):
        for name, field in WITH_FIELD:
            for worth in WORTHS:
                for error in (named(name)(worth), named(name)(**{field: worth})):
                    self.assertIs(getattr(error, field), worth)
                    self.assertTrue(str(error))

    def test_field_stays_in_copies(self):
        for name, field in WITH_FIELD:
            error = named(name)(**{field: 7})
            for twin in (copy.copy(error), pickle.loads(pickle.dumps(error))):
                self.assertIs(type(twin), named(name))
                self.assertEqual(getattr(twin, field), 7)

    def test_field_is_needed(self):
        for name, field in WITH_FIELD:
            self.assertRaises(TypeError, named(name))
            self.assertRaises(TypeError, named(name), 1, 2)
            self.assertRaises(TypeError, named(name), other=1)


if __name__ == "__main__":
    unittest.main()
