import copy
import pickle
import unittest

from forthback import errors

# Of each class: the one that it stands straight under, and its field.
WRITTEN = {
    "Unlike": (ValueError, None),
    "NotAlike": (ValueError, None),
    "NoStep": (ValueError, "at"),
    "BadWord": (ValueError, "at"),
    "BadRow": (ValueError, "row"),
    "BadDeed": (ValueError, "at"),
    "NoBin": (LookupError, "place"),
    "NoGate": (LookupError, "gate"),
    "NoDeed": (LookupError, "many"),
    "TooMany": (OverflowError, "many"),
    "Full": (OverflowError, "place"),
    "Barred": (RuntimeError, "gate"),
    "Lacks": (RuntimeError, "place"),
    "Open": (RuntimeError, None),
    "NoRow": (RuntimeError, None),
}
ABOVE = (ValueError, LookupError, OverflowError, RuntimeError)
VALUES = (0, 7, -3, 10 ** 12, 10 ** 6000)


def each():
    return [(getattr(errors, name), under, field) for name, (under, field) in WRITTEN.items()]


class Errors(unittest.TestCase):
    def test_all_fifteen_and_no_more(self):
        found = [name for name, value in vars(errors).items() if isinstance(value, type)]
        self.assertEqual(sorted(found), sorted(WRITTEN))
        self.assertEqual(len(found), 15)

    def test_defined_in_errors(self):
        for name in WRITTEN:
            with self.subTest(name):
                made = getattr(errors, name)
                self.assertEqual((made.__module__, made.__name__), ("forthback.errors", name))

    def test_straight_under_the_one_told(self):
        for made, under, _ in each():
            with self.subTest(made.__name__):
                self.assertEqual(made.__bases__, (under,))

    def test_under_no_other(self):
        for made, under, _ in each():
            for other in ABOVE + tuple(one for one, _, _ in each()):
                if other not in (made, under):
                    with self.subTest(f"{made.__name__} under {other.__name__}"):
                        self.assertFalse(issubclass(made, other))

    def test_field_by_place(self):
        for made, _, field in each():
            for value in VALUES if field else ():
                with self.subTest(made.__name__):
                    self.assertTrue(getattr(made(value), field) == value)

    def test_field_by_name(self):
        for made, _, field in each():
            for value in VALUES if field else ():
                with self.subTest(made.__name__):
                    self.assertTrue(getattr(made(**{field: value}), field) == value)

    def test_field_is_wanted(self):
        for made, _, field in each():
            if field:
                with self.subTest(made.__name__), self.assertRaises(TypeError):
                    made()

    def test_field_called_so_and_not_otherwise(self):
        fields = {field for _, _, field in each() if field}
        for made, _, field in each():
            made_one = made(5) if field else made()
            with self.subTest(made.__name__):
                self.assertEqual([name for name in fields if hasattr(made_one, name)], [field] if field else [])

    def test_each_object_has_its_own_field(self):
        for made, _, field in each():
            if field:
                with self.subTest(made.__name__):
                    first, second = made(1), made(2)
                    self.assertEqual((getattr(first, field), getattr(second, field)), (1, 2))

    def test_raised_and_caught(self):
        for made, under, field in each():
            for caught in (made, under):
                with self.subTest(f"{made.__name__} as {caught.__name__}"):
                    with self.assertRaises(caught) as held:
                        raise made(4) if field else made()
                    self.assertIs(type(held.exception), made)
                    if field:
                        self.assertEqual(getattr(held.exception, field), 4)

    def test_words_can_be_had_of_any_number(self):
        for made, _, field in each():
            with self.subTest(made.__name__):
                self.assertIs(type(str(made(10 ** 6000) if field else made())), str)

    def test_copies_keep_the_field(self):
        for made, _, field in each():
            one = made(6) if field else made()
            for again in (copy.copy(one), pickle.loads(pickle.dumps(one))):
                with self.subTest(made.__name__):
                    self.assertIs(type(again), made)
                    if field:
                        self.assertEqual(getattr(again, field), 6)


if __name__ == "__main__":
    unittest.main()
