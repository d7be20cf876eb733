import unittest

from asyncframes.errors import (
    Busy,
    FrameError,
    NoneWaiting,
    NoSuchBox,
    NotAScroller,
    NotBegun,
    NotReady,
    RefusedEdit,
    TextError,
)

PLAIN = (NoSuchBox, NotAScroller, RefusedEdit, NotBegun, Busy, NoneWaiting, NotReady)


class Errors(unittest.TestCase):
    def test_frame_error_is_a_value_error(self):
        self.assertEqual(FrameError.__bases__, (ValueError,))

    def test_all_are_frame_errors(self):
        for kind in PLAIN + (TextError,):
            self.assertTrue(issubclass(kind, FrameError), kind)

    def test_none_is_another_one(self):
        kinds = PLAIN + (TextError,)
        for kind in kinds:
            for other in kinds:
                self.assertEqual(issubclass(kind, other), kind is other, (kind, other))

    def test_created_with_one_string(self):
        for kind in PLAIN + (FrameError,):
            with self.assertRaises(kind) as caught:
                raise kind("what went wrong")
            self.assertEqual(str(caught.exception), "what went wrong")

    def test_text_error_has_its_fields_and_text(self):
        error = TextError(17, "number twice")
        self.assertEqual(error.place, 17)
        self.assertEqual(error.message, "number twice")
        self.assertEqual(str(error), "number twice at 17")

    def test_text_error_at_the_first_place(self):
        error = TextError(0, "unexpected end")
        self.assertEqual((error.place, error.message), (0, "unexpected end"))
        self.assertEqual(str(error), "unexpected end at 0")

    def test_text_errors_keep_their_own_fields(self):
        one = TextError(1, "too deep")
        other = TextError(2, "out of range")
        self.assertEqual((one.place, one.message, str(one)), (1, "too deep", "too deep at 1"))
        self.assertEqual((other.place, other.message, str(other)), (2, "out of range", "out of range at 2"))


if __name__ == "__main__":
    unittest.main()
