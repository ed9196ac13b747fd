import unittest

from wordbench import errors

STRAIGHT_UNDER_BENCH_ERROR = [
    "NoOption", "NoPlace", "NoCommand", "Clash", "NoRow", "NoName", "NoMaker", "BadDefault", "Fault",
]
STRAIGHT_UNDER_FAULT = [
    "Unknown", "Unclear", "Unwanted", "Again", "Together", "NoValue", "BadValue", "Lacks", "Spare", "Unnamed",
]
ALL = ["BenchError", "Unmade"] + STRAIGHT_UNDER_BENCH_ERROR + STRAIGHT_UNDER_FAULT


def named(name):
    return getattr(errors, name)


class Families(unittest.TestCase):
    def test_the_two_that_stand_straight_under_value_error(self):
        for name in ("BenchError", "Unmade"):
            with self.subTest(name):
                self.assertEqual(named(name).__bases__, (ValueError,))

    def test_those_straight_under_bench_error(self):
        for name in STRAIGHT_UNDER_BENCH_ERROR:
            with self.subTest(name):
                self.assertEqual(named(name).__bases__, (errors.BenchError,))

    def test_those_straight_under_fault(self):
        for name in STRAIGHT_UNDER_FAULT:
            with self.subTest(name):
                self.assertEqual(named(name).__bases__, (errors.Fault,))

    def test_none_stands_under_another_but_so(self):
        for name in ALL:
            above = {name}
            if name in STRAIGHT_UNDER_BENCH_ERROR:
                above.add("BenchError")
            if name in STRAIGHT_UNDER_FAULT:
                above.update(["BenchError", "Fault"])
            for other in ALL:
                with self.subTest(name=name, other=other):
                    self.assertEqual(issubclass(named(name), named(other)), other in above)

    def test_each_has_its_own_name(self):
        for name in ALL:
            with self.subTest(name):
                self.assertEqual(named(name).__name__, name)
                self.assertEqual(named(name).__module__, "wordbench.errors")


class Fields(unittest.TestCase):
    def test_field_of_what_is_not_made(self):
        for error in (errors.NoOption("about"), errors.NoPlace("about"), errors.NoCommand("about")):
            with self.subTest(repr(error)):
                self.assertEqual(vars(error), {"field": "about"})

    def test_clash(self):
        error = errors.Clash(["a", "b"], "long", "c")
        self.assertEqual(vars(error), {"where": ["a", "b"], "kind": "long", "who": "c"})

    def test_who_alone(self):
        self.assertEqual(vars(errors.NoName("a")), {"who": "a"})
        self.assertEqual(vars(errors.NoMaker("a")), {"who": "a"})

    def test_no_row_has_none(self):
        self.assertEqual(vars(errors.NoRow()), {})

    def test_bad_default(self):
        error = errors.BadDefault(["a"], "b", "c")
        self.assertEqual(vars(error), {"where": ["a"], "who": "b", "why": "c"})

    def test_faults_with_at_and_who(self):
        plain = [name for name in STRAIGHT_UNDER_FAULT if name not in ("Unclear", "Together", "BadValue")]
        for name in plain:
            with self.subTest(name):
                error = named(name)(3, "a")
                self.assertEqual((error.at, error.who), (3, "a"))

    def test_faults_with_more(self):
        unclear = errors.Unclear(3, "a", ["ab", "ac"])
        self.assertEqual((unclear.at, unclear.who, unclear.some), (3, "a", ["ab", "ac"]))
        together = errors.Together(3, "a", "b")
        self.assertEqual((together.at, together.who, together.other), (3, "a", "b"))
        bad = errors.BadValue(3, "a", "b", "c")
        self.assertEqual((bad.at, bad.who, bad.word, bad.why), (3, "a", "b", "c"))

    def test_lists_of_an_error_are_its_own(self):
        path = ["a"]
        clash, default, unclear = errors.Clash(path, "deep", "a"), errors.BadDefault(path, "a", ""), errors.Unclear(0, "", path)
        path.append("b")
        self.assertEqual([clash.where, default.where, unclear.some], [["a"], ["a"], ["a"]])


class OfUnmade(unittest.TestCase):
    def test_why_is_the_text_it_was_made_of(self):
        for why in ("", "a", "no number: 'x'", " "):
            with self.subTest(why):
                self.assertEqual(errors.Unmade(why).why, why)
                self.assertEqual(errors.Unmade(why=why).why, why)

    def test_without_a_text_why_is_without_signs(self):
        self.assertEqual(errors.Unmade().why, "")

    def test_it_is_raised_and_caught_as_a_value_error(self):
        with self.assertRaises(ValueError) as caught:
            raise errors.Unmade("so")
        self.assertEqual(caught.exception.why, "so")
        self.assertNotIsInstance(caught.exception, errors.BenchError)


if __name__ == "__main__":
    unittest.main()
