import unittest

from bentalike import errors

ATTRIBUTES = {
    "given": (
        "InvalidPoint InvalidSegment InvalidFigure InvalidScene InvalidCell InvalidName InvalidIndex InvalidMap "
        "InvalidDart InvalidSpecial InvalidFace InvalidPart InvalidStep InvalidSide InvalidCode InvalidPick "
        "InvalidDeed InvalidBook InvalidWindow TooMany").split(),
    "index": "InvalidSegments InvalidPoints InvalidLines".split(),
    "spot": ["BadText"],
}
PLAIN = ["NothingToUndo", "NothingToRedo"]
WHATEVER = (None, 0, True, -1, 10 ** 500, "", "word", b"bytes", [1, [2]], (1, 2), {"a": 1}, {1}, object(), len)


class Errors(unittest.TestCase):

    def test_each_is_made_by_position_and_keeps_whatever_it_is(self):
        for attribute, names in ATTRIBUTES.items():
            for name in names:
                for value in WHATEVER:
                    self.assertIs(getattr(getattr(errors, name)(value), attribute), value, name)

    def test_each_is_made_by_name_and_keeps_whatever_it_is(self):
        for attribute, names in ATTRIBUTES.items():
            for name in names:
                for value in WHATEVER:
                    made = getattr(errors, name)(**{attribute: value})
                    self.assertIs(getattr(made, attribute), value, name)

    def test_each_has_no_other_attribute(self):
        for attribute, names in ATTRIBUTES.items():
            for name in names:
                self.assertEqual(vars(getattr(errors, name)(1)), {attribute: 1}, name)

    def test_each_wants_its_attribute(self):
        for names in ATTRIBUTES.values():
            for name in names:
                with self.assertRaises(TypeError):
                    getattr(errors, name)()

    def test_those_without_attributes(self):
        for name in PLAIN + ["BendError"]:
            self.assertEqual(vars(getattr(errors, name)()), {}, name)

    def test_each_stands_under_bend_error_alone(self):
        for name in sum(ATTRIBUTES.values(), PLAIN):
            error = getattr(errors, name)
            self.assertEqual(error.__bases__, (errors.BendError,), name)
            self.assertEqual(error.__mro__[1:], errors.BendError.__mro__, name)

    def test_the_base_stands_under_value_error_alone(self):
        self.assertEqual(errors.BendError.__bases__, (ValueError,))

    def test_each_is_defined_in_its_file(self):
        for name in sum(ATTRIBUTES.values(), PLAIN + ["BendError"]):
            self.assertEqual(getattr(errors, name).__module__, "bentalike.errors")

    def test_each_can_be_raised_and_caught_by_its_base(self):
        for attribute, names in ATTRIBUTES.items():
            for name in names:
                with self.assertRaises(errors.BendError) as caught:
                    raise getattr(errors, name)((1, 2))
                self.assertEqual(getattr(caught.exception, attribute), (1, 2))
        for name in PLAIN:
            with self.assertRaises(errors.BendError):
                raise getattr(errors, name)()


if __name__ == "__main__":
    unittest.main()
