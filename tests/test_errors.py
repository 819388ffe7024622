import unittest

from pulledpegs import errors
from tests.odd import ODD

PARAMETERS = {
    "BadWall": ("thing",), "BadSet": ("thing",), "BadCord": ("thing",), "BadSlide": ("thing",), "BadRule": ("thing",),
    "BadTable": ("thing",), "BadOrder": ("thing",), "BadRow": ("thing",), "BadNumber": ("thing",),
    "BadChange": ("thing",), "BadGallery": ("thing",), "BadPicture": ("thing",), "BadReports": ("thing",),
    "NotOnWall": ("certificate",), "Quarrel": ("certificate",), "BadName": ("name",), "NoName": ("name",),
    "Here": ("name",), "BadPromise": ("thing",), "Broken": ("promise", "certificate"), "BadText": ("line",),
    "NothingToUndo": (), "NothingToRedo": (),
}


class Errors(unittest.TestCase):
    def test_there_are_twenty_three(self):
        self.assertEqual(len(PARAMETERS), 23)
        for name in PARAMETERS:
            self.assertEqual(getattr(errors, name).__module__, "pulledpegs.errors")

    def test_bases(self):
        self.assertEqual(errors.PegError.__bases__, (Exception,))
        for name in PARAMETERS:
            self.assertEqual(getattr(errors, name).__bases__, (errors.PegError,), name)

    def test_parameters_are_attributes_by_position_and_by_name(self):
        for name, parameters in PARAMETERS.items():
            made = getattr(errors, name)
            values = [object() for _ in parameters]
            for error in (made(*values), made(**dict(zip(parameters, values)))):
                self.assertEqual(vars(error), dict(zip(parameters, values)), name)

    def test_parameters_can_be_any_values(self):
        for name, parameters in PARAMETERS.items():
            for value in ODD:
                error = getattr(errors, name)(*[value for _ in parameters])
                for parameter in parameters:
                    self.assertIs(getattr(error, parameter), value)

    def test_they_can_be_raised_and_caught(self):
        for name, parameters in PARAMETERS.items():
            with self.assertRaises(errors.PegError):
                raise getattr(errors, name)(*[0 for _ in parameters])

    def test_parameters_are_asked_for(self):
        for name, parameters in PARAMETERS.items():
            if parameters:
                for many in (0, len(parameters) - 1, len(parameters) + 1):
                    with self.assertRaises(TypeError):
                        getattr(errors, name)(*range(many))
