import unittest

from latebyfew import errors

WITH_THING = (
    "BadTown", "BadRound", "BadDay", "BadBudget", "BadNumber", "BadMachine", "BadWord", "BadHow", "NotSure",
    "BadPrices", "BadPath", "BadLabel", "BadPlace", "BadPlan", "BadWishes", "BadPosition", "BadMove", "BadAnswer",
    "BadStanding", "BadOrder", "BadDeed",
)
PARAMETERS = dict([(name, "thing") for name in WITH_THING] + [("BadText", "at"), ("BadLine", "k")])
BARE = ("NothingToUndo", "NothingToRedo")


class Errors(unittest.TestCase):
    def test_base_classes(self):
        self.assertEqual(errors.LateError.__bases__, (Exception,))
        for name in list(PARAMETERS) + list(BARE):
            with self.subTest(name):
                self.assertEqual(getattr(errors, name).__bases__, (errors.LateError,))

    def test_nothing_else_is_there(self):
        found = {name for name in vars(errors) if not name.startswith("_")}
        self.assertEqual(found, {"LateError", *PARAMETERS, *BARE})

    def test_defined_in_their_file(self):
        for name in ["LateError", *PARAMETERS, *BARE]:
            self.assertEqual(getattr(errors, name).__module__, "latebyfew.errors")

    def test_parameters_are_attributes(self):
        for name, parameter in PARAMETERS.items():
            for thing in (0, -1, True, None, "", "word", (), (1, 2), [3], {"a": []}, 10 ** 39):
                with self.subTest(name, thing=thing):
                    error = getattr(errors, name)
                    self.assertIs(getattr(error(thing), parameter), thing)
                    self.assertIs(getattr(error(**{parameter: thing}), parameter), thing)

    def test_can_be_raised_and_caught(self):
        for name, parameter in PARAMETERS.items():
            with self.assertRaises(errors.LateError) as caught:
                raise getattr(errors, name)((1, 2))
            self.assertEqual(vars(caught.exception), {parameter: (1, 2)})
        for name in BARE:
            with self.assertRaises(errors.LateError) as caught:
                raise getattr(errors, name)()
            self.assertEqual(vars(caught.exception), {})


if __name__ == "__main__":
    unittest.main()
