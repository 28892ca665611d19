import unittest

from pegdiscs import errors
from pegdiscs.errors import BadCount, BadDiscs, BadMove, BadPegs, BadSetting, PegError, TooMany, Unlike

OF_A_TEXT = (BadSetting, Unlike, BadPegs, BadDiscs, BadCount, TooMany)


class Classes(unittest.TestCase):
    def test_peg_error_stands_straight_under_value_error(self):
        self.assertEqual(PegError.__bases__, (ValueError,))

    def test_each_refusal_stands_straight_under_peg_error(self):
        for kind in OF_A_TEXT + (BadMove,):
            self.assertEqual(kind.__bases__, (PegError,), kind)

    def test_they_are_defined_in_their_file_under_their_names(self):
        for kind in OF_A_TEXT + (BadMove, PegError):
            self.assertEqual(kind.__module__, "pegdiscs.errors")
            self.assertIs(getattr(errors, kind.__name__), kind)

    def test_made_of_a_text(self):
        for kind in OF_A_TEXT + (PegError,):
            self.assertEqual(str(kind("why it is so")), "why it is so")

    def test_raised_and_caught_as_peg_error_and_value_error(self):
        for kind in OF_A_TEXT:
            for caught in (kind, PegError, ValueError):
                with self.assertRaises(caught):
                    raise kind("no")

    def test_no_refusal_is_caught_as_another_one(self):
        for kind in OF_A_TEXT + (BadMove,):
            for other in OF_A_TEXT + (BadMove,):
                self.assertEqual(issubclass(kind, other), kind is other)


class BadMoves(unittest.TestCase):
    def test_the_field_is_set_when_it_is_made(self):
        for at in (0, 1, 2999, None):
            self.assertEqual(BadMove(at).at, at)
            self.assertEqual(vars(BadMove(at)), {"at": at})

    def test_the_argument_is_called_at(self):
        self.assertEqual(BadMove(at=7).at, 7)

    def test_it_has_a_text(self):
        self.assertNotEqual(str(BadMove(3)), "")

    def test_raised_and_caught_as_peg_error_and_value_error(self):
        for caught in (BadMove, PegError, ValueError):
            with self.assertRaises(caught) as told:
                raise BadMove(5)
            self.assertEqual(told.exception.at, 5)


if __name__ == "__main__":
    unittest.main()
