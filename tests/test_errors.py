"""[4], and the parameters' names of [2]."""

import inspect
import unittest

from twinforks import errors

ONE = {
    "index": "BadBook BadCells BadCourse BadEnds BadItems BadJoins BadLot BadParts BadRules BadShut BadStates"
             " BadTable BadText BadTies NotOpen NotWithout",
    "thing": "BadBox BadChoice BadEnd BadEndless BadFigures BadForm BadIndex BadKind BadMachine BadMany BadMost"
             " BadNet BadOther BadPair BadPlan BadProgram BadQuestion BadSession BadSurroundings BadWay NoCount",
    "deed": "BadDeed", "names": "BadNames", "step": "BadStep", "name": "BadWire", "question": "InUse IsWatched"
    " NotWatched", "end": "Meets", "why": "NotNow", "pair": "NotStill",
}
PARAMETERS = {name: [parameter] for parameter, names in ONE.items() for name in names.split()}
PARAMETERS["WouldChange"] = ["question", "why"]


class ErrorsTest(unittest.TestCase):
    def test_all_are_there_and_no_others(self):
        found = [name for name, thing in vars(errors).items() if inspect.isclass(thing)]
        self.assertEqual(sorted(found), sorted([*PARAMETERS, "ForkError"]))
        self.assertEqual(len(found), 49)

    def test_each_is_right_beneath(self):
        self.assertEqual(errors.ForkError.__bases__, (ValueError,))
        for name in PARAMETERS:
            self.assertEqual(getattr(errors, name).__bases__, (errors.ForkError,), name)

    def test_fork_error_itself(self):
        error = errors.ForkError()
        self.assertIsInstance(error, ValueError)
        with self.assertRaises(errors.ForkError):
            raise error

    def test_they_keep_the_very_objects(self):
        for name, parameters in PARAMETERS.items():
            things = [[name, k] for k in range(len(parameters))]
            by_place = getattr(errors, name)(*things)
            by_name = getattr(errors, name)(**dict(zip(parameters, things)))
            for parameter, thing in zip(parameters, things):
                self.assertIs(getattr(by_place, parameter), thing)
                self.assertIs(getattr(by_name, parameter), thing)
            self.assertIsInstance(str(by_place), str)

    def test_long_numbers_are_kept(self):
        error = errors.BadMost(10 ** 5000)
        self.assertEqual(error.thing, 10 ** 5000)
        self.assertIsInstance(repr(error), str)

    def test_none_has_more_parameters(self):
        for name, parameters in PARAMETERS.items():
            with self.assertRaises(TypeError):
                getattr(errors, name)(*parameters, None)
            with self.assertRaises(TypeError):
                getattr(errors, name)()


if __name__ == "__main__":
    unittest.main()
