import inspect

from seenframes import errors
from tests.support import Case, any_values

BAD = {
    "BadHosts": ("at",), "BadFrame": ("part",), "BadHistory": ("at",), "BadIndex": ("value",),
    "BadCut": ("part",), "BadTree": ("at",), "BadFour": ("value",), "BadParting": ("part",),
    "BadAnswer": ("value",), "BadWeb": ("part",), "BadGround": ("value",), "BadNumber": ("value",),
    "BadSight": ("value",), "BadNames": ("value",), "BadText": ("line", "word"), "BadSay": ("word",),
}
REFUSED = {
    "NoHost": ("name",), "NoSwitch": ("value",), "Unlike": (), "TooMany": ("what", "most"),
    "Crossed": ("one", "other"), "Misfit": ("five",), "NothingFits": (), "NoChange": (), "Begun": (),
}


class Errors(Case):

    def test_what_stands_below_what(self):
        self.assertEqual(errors.SeenError.__bases__, (ValueError,))
        self.assertEqual(errors.BadInput.__bases__, (errors.SeenError,))
        self.assertEqual(errors.Refused.__bases__, (errors.SeenError,))
        for name in BAD:
            self.assertEqual(getattr(errors, name).__bases__, (errors.BadInput,))
        for name in REFUSED:
            self.assertEqual(getattr(errors, name).__bases__, (errors.Refused,))

    def test_no_others(self):
        found = {name for name, value in vars(errors).items() if inspect.isclass(value)}
        self.assertEqual(found, {"SeenError", "BadInput", "Refused", *BAD, *REFUSED})

    def test_they_are_defined_here(self):
        for name in [*BAD, *REFUSED, "SeenError", "BadInput", "Refused"]:
            self.assertEqual(getattr(errors, name).__module__, "seenframes.errors")
            self.assertEqual(getattr(errors, name).__name__, name)

    def test_arguments_are_kept(self):
        for name, parts in {**BAD, **REFUSED}.items():
            made = getattr(errors, name)
            for value in any_values():
                told = [[value, at] for at in range(len(parts))]
                for error in (made(*told), made(**dict(zip(parts, told)))):
                    self.assertEqual(tuple(vars(error)), parts)
                    for part, kept in zip(parts, told):
                        self.assertIs(getattr(error, part), kept)

    def test_mixed_position_and_name(self):
        error = errors.TooMany("hosts", most=3)
        self.assertEqual((error.what, error.most), ("hosts", 3))
        error = errors.BadText(1, word=2)
        self.assertEqual((error.line, error.word), (1, 2))

    def test_the_number_of_arguments(self):
        for name, parts in {**BAD, **REFUSED}.items():
            if parts:
                with self.assertRaises(TypeError):
                    getattr(errors, name)()
                with self.assertRaises(TypeError):
                    getattr(errors, name)(*range(len(parts) + 1))

    def test_caught_as_value_errors(self):
        for name, parts in {**BAD, **REFUSED}.items():
            with self.assertRaises(ValueError):
                raise getattr(errors, name)(*parts)
