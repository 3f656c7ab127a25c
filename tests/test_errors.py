"""[0.5] The errors."""

import inspect
import unittest

from headsheard import errors

PARAMETERS = {
    "BadStrength": ["what"], "BadCounts": ["what"], "BadFacts": ["what"], "BadData": [], "BadText": ["place"],
    "BadNet": ["what", "at"], "UnlikeNets": [], "BadRow": ["what", "trail"], "NoNet": ["number"],
    "TooLong": ["span"], "BadStarts": ["what", "at"], "WrongNet": ["houses"], "NoHouse": ["house"],
    "NoLevel": ["level"], "NoClass": ["number"], "BadView": ["what", "level", "node"], "NoNode": ["level", "node"],
    "NotOneRound": ["at"], "WrongLetter": ["what"], "WrongFacts": ["at"], "BadStart": [], "NotJoined": ["number"],
    "BadLamps": ["lamps"], "BadHouses": ["houses"], "NeedsSums": [], "NeedsLamp": [], "NotNext": ["due"],
    "NotSame": ["due"], "NeedsMost": [], "NoHeads": ["heads"], "NoWorld": [], "BadStubs": ["what"],
    "BadTeller": ["what", "at"], "BadTwins": ["what"], "BadSaying": ["what"], "BadDeed": [], "Away": ["house"],
    "NotAway": ["house"], "FullDesk": [], "BadStory": ["line"],
}


class ErrorsTest(unittest.TestCase):
    def test_head_error_stands_under_value_error(self):
        self.assertEqual(errors.HeadError.__bases__, (ValueError,))

    def test_there_are_just_the_errors_of_the_interface(self):
        found = {name for name, thing in vars(errors).items() if inspect.isclass(thing)}
        self.assertEqual(found, set(PARAMETERS) | {"HeadError"})

    def test_each_error_stands_straight_under_head_error(self):
        for name in PARAMETERS:
            with self.subTest(name):
                self.assertEqual(getattr(errors, name).__bases__, (errors.HeadError,))

    def test_attributes_are_the_parameters(self):
        for name, parameters in PARAMETERS.items():
            given = [("told", at, parameter) for at, parameter in enumerate(parameters)]
            by_place = getattr(errors, name)(*given)
            by_name = getattr(errors, name)(**dict(zip(parameters, given)))
            for error in (by_place, by_name):
                with self.subTest(name):
                    self.assertEqual(vars(error), dict(zip(parameters, given)))

    def test_missing_parameters_are_refused(self):
        for name, parameters in PARAMETERS.items():
            if parameters:
                with self.subTest(name), self.assertRaises(TypeError):
                    getattr(errors, name)()

    def test_errors_can_be_raised_and_caught(self):
        for name, parameters in PARAMETERS.items():
            with self.subTest(name), self.assertRaises(ValueError) as caught:
                raise getattr(errors, name)(*parameters)
            self.assertIsInstance(caught.exception, errors.HeadError)
