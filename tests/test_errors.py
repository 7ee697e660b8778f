import copy
import pickle
import unittest

from turncoins import errors
from turncoins.errors import CantMend, CoinError, NoGate, NotFree

NAMES = ("NoList", "NoGate", "NoLook", "NotFree", "NoRows", "NoShort", "NoTable", "NoCode", "CantMend", "NoText",
         "NoName", "NoLine")
FIELDS = {"NoGate": {"at": 3}, "NotFree": {"which": [0, 2]}, "CantMend": {"one": (1, 1, 0), "other": (1, 2, 0)}}


def refusal(name):
    if name in FIELDS:
        return getattr(errors, name)(*FIELDS[name].values())
    return getattr(errors, name)("words")


class Classes(unittest.TestCase):
    def test_the_base_stands_under_value_error(self):
        self.assertEqual(CoinError.__bases__, (ValueError,))

    def test_each_stands_under_the_base_and_value_error(self):
        for name in NAMES:
            with self.subTest(name):
                self.assertTrue(issubclass(getattr(errors, name), CoinError))
                self.assertTrue(issubclass(getattr(errors, name), ValueError))

    def test_none_stands_under_another_one(self):
        for name in NAMES:
            for other in NAMES:
                with self.subTest(name, other=other):
                    under = issubclass(getattr(errors, name), getattr(errors, other))
                    self.assertEqual(under, name == other)

    def test_each_is_named_as_told(self):
        for name in NAMES:
            self.assertEqual(getattr(errors, name).__name__, name)

    def test_each_is_taken_as_the_base_and_as_value_error(self):
        for name in NAMES:
            for base in (CoinError, ValueError):
                with self.subTest(name, base=base):
                    with self.assertRaises(base):
                        raise refusal(name)


class Fields(unittest.TestCase):
    def test_fields_are_set_when_made(self):
        for name, fields in FIELDS.items():
            for field, value in fields.items():
                with self.subTest(name, field=field):
                    self.assertEqual(getattr(refusal(name), field), value)

    def test_fields_belong_to_the_object(self):
        one, other = NoGate(0), NoGate(7)
        self.assertEqual((one.at, other.at), (0, 7))
        one, other = CantMend((1, 1, 0), (1, 0, 1)), CantMend((1, 2, 0), (1, 0, 2))
        self.assertEqual((one.one, one.other), ((1, 1, 0), (1, 0, 1)))
        self.assertEqual((other.one, other.other), ((1, 2, 0), (1, 0, 2)))

    def test_numbers_of_rows_are_the_takers_own(self):
        which = [0, 2]
        one, other = NotFree(which), NotFree(which)
        one.which.append(5)
        self.assertEqual((which, other.which), ([0, 2], [0, 2]))
        which.append(4)
        self.assertEqual(other.which, [0, 2])

    def test_other_classes_have_no_fields(self):
        for name in NAMES:
            with self.subTest(name):
                self.assertEqual(vars(refusal(name)), FIELDS.get(name, {}))

    def test_a_copy_has_the_same_fields(self):
        for name in NAMES:
            with self.subTest(name):
                for again in (copy.deepcopy(refusal(name)), pickle.loads(pickle.dumps(refusal(name)))):
                    self.assertEqual(again.__class__.__name__, name)
                    self.assertEqual(vars(again), FIELDS.get(name, {}))


if __name__ == "__main__":
    unittest.main()
