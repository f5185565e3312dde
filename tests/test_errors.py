import unittest

from sealround import errors
from sealround.errors import (
    ChainError,
    JournalError,
    NotebookError,
    PaperError,
    SealError,
    ServiceError,
    TextError,
    ThingError,
    WitnessError,
)

WITH_REASON = (ThingError, WitnessError, NotebookError, ServiceError)
WITH_PLACE = (
    (PaperError, "step"),
    (TextError, "line"),
    (ChainError, "link"),
    (JournalError, "deed"),
)
ALL = WITH_REASON + tuple(kind for kind, _ in WITH_PLACE)


class FieldTest(unittest.TestCase):
    def test_errors_with_a_reason_alone(self):
        for kind in WITH_REASON:
            with self.subTest(kind=kind.__name__):
                self.assertEqual(vars(kind("no head")), {"reason": "no head"})
                self.assertEqual(kind(reason="hour").reason, "hour")

    def test_errors_with_a_place_and_a_reason(self):
        for kind, place in WITH_PLACE:
            with self.subTest(kind=kind.__name__):
                self.assertEqual(vars(kind(7, "why")), {place: 7, "reason": "why"})
                error = kind(**{"reason": "why", place: 0})
                self.assertEqual((getattr(error, place), error.reason), (0, "why"))

    def test_the_fields_are_those_of_the_raised_error(self):
        with self.assertRaises(PaperError) as caught:
            raise PaperError(3, "not a thing")
        self.assertEqual(caught.exception.step, 3)
        self.assertEqual(caught.exception.reason, "not a thing")

    def test_missing_and_additional_arguments_are_wrong(self):
        for kind in WITH_REASON:
            for arguments in ((), (1, "why")):
                with self.subTest(kind=kind.__name__, arguments=arguments):
                    self.assertRaises(TypeError, kind, *arguments)
        for kind, _ in WITH_PLACE:
            for arguments in ((), ("why",), (1, "why", 2)):
                with self.subTest(kind=kind.__name__, arguments=arguments):
                    self.assertRaises(TypeError, kind, *arguments)


class FamilyTest(unittest.TestCase):
    def make(self, kind):
        return kind("why") if kind in WITH_REASON else kind(0, "why")

    def test_the_base_class_is_a_value_error(self):
        self.assertEqual(SealError.__bases__, (ValueError,))
        with self.assertRaises(ValueError):
            raise SealError("why")

    def test_each_one_is_caught_as_itself_and_by_the_base_classes(self):
        for kind in ALL:
            for catcher in (kind, SealError, ValueError):
                with self.subTest(kind=kind.__name__, catcher=catcher.__name__):
                    with self.assertRaises(catcher):
                        raise self.make(kind)

    def test_none_is_caught_as_another_one(self):
        for kind in ALL:
            for other in ALL:
                with self.subTest(kind=kind.__name__, other=other.__name__):
                    self.assertEqual(isinstance(self.make(kind), other), kind is other)
            self.assertFalse(issubclass(SealError, kind))

    def test_each_one_stands_directly_below_the_base_class(self):
        for kind in ALL:
            with self.subTest(kind=kind.__name__):
                self.assertEqual(kind.__bases__, (SealError,))

    def test_there_are_no_other_errors(self):
        names = [name for name, value in vars(errors).items() if isinstance(value, type)]
        self.assertEqual(sorted(names), sorted(kind.__name__ for kind in (SealError, *ALL)))


if __name__ == "__main__":
    unittest.main()
