import itertools
import unittest

from handed import BAD_ABOUTS, BAD_NAMES, GOOD_ABOUTS, GOOD_NAMES, NO_LISTS, NO_TEXTS, Odd, refusal
from wordbench.commands import Command
from wordbench.errors import NoCommand
from wordbench.options import Option, Place

ARGUMENTS = ["name", "options", "places", "groups", "commands", "about"]
LISTS = ["options", "places", "groups", "commands"]


def options(many):
    return [Option(f"o{number}") for number in range(many)]


def places(many):
    return [Place(f"p{number}") for number in range(many)]


def groups(many):
    return [[f"a{number}", f"b{number}"] for number in range(many)]


def commands(many):
    return [Command(f"c{number}") for number in range(many)]


MAKE = {"options": (options, 12), "places": (places, 6), "groups": (groups, 4), "commands": (commands, 8)}


def told(command):
    return [getattr(command, name)() for name in ARGUMENTS]


class AsTold(unittest.TestCase):
    def test_name(self):
        for value in GOOD_NAMES:
            with self.subTest(value):
                self.assertEqual(Command(value).name(), value)

    def test_about(self):
        for value in GOOD_ABOUTS:
            with self.subTest(value):
                self.assertEqual(Command("a", about=value).about(), value)

    def test_each_list_of_every_length_up_to_the_most(self):
        for field, (make, most) in MAKE.items():
            for many in range(most + 1):
                with self.subTest(field=field, many=many):
                    values = make(many)
                    answer = getattr(Command("a", **{field: values}), field)()
                    self.assertIs(answer.__class__, list)
                    self.assertEqual(answer, values)

    def test_each_list_none_or_left_out_is_the_empty_list(self):
        for field in LISTS:
            with self.subTest(field):
                self.assertEqual(getattr(Command("a", **{field: None}), field)(), [])
                self.assertEqual(getattr(Command("a", **{field: []}), field)(), [])
                self.assertEqual(getattr(Command("a"), field)(), [])

    def test_groups_of_two_to_six_texts(self):
        texts = ["a", "", "a", "No Name", "--", "x" * 60]
        for many in range(2, 7):
            with self.subTest(many):
                self.assertEqual(Command("a", groups=[texts[:many]]).groups(), [texts[:many]])

    def test_the_very_commands_are_told(self):
        first, second = Command("a"), Command("a")
        beneath = Command("b", commands=[first, second, first]).commands()
        self.assertEqual([each is first for each in beneath], [True, False, True])

    def test_what_clashes_is_still_made(self):
        command = Command(
            "a", [Option("x"), Option("x")], [Place("x", "any"), Place("x")], [["y", "y"]], [Command("a"), Command("a")]
        )
        self.assertEqual([len(each) for each in told(command)[1:5]], [2, 2, 1, 2])

    def test_by_place(self):
        full = ["a", options(1), places(2), groups(3), commands(4), "b"]
        left_out = [[], [], [], [], ""]
        for many in range(1, 7):
            with self.subTest(many):
                self.assertEqual(told(Command(*full[:many])), full[:many] + left_out[many - 1:])

    def test_by_name(self):
        full = ["a", options(1), places(2), groups(3), commands(4), "b"]
        named = dict(reversed(list(zip(ARGUMENTS, full))))
        self.assertEqual(told(Command(**named)), full)

    def test_its_methods_are_its_own(self):
        for name in ARGUMENTS:
            with self.subTest(name):
                self.assertIn(name, vars(Command))


class ListsAreOwn(unittest.TestCase):
    def test_what_is_handed_in_is_not_changed(self):
        handed = {field: make(most) for field, (make, most) in MAKE.items()}
        before = {field: list(handed[field]) for field in LISTS}
        Command("a", **handed)
        self.assertEqual(handed, before)
        self.assertEqual(handed["groups"], groups(4))

    def test_a_list_changed_behind_the_call(self):
        for field, (make, most) in MAKE.items():
            with self.subTest(field):
                values = make(2)
                command = Command("a", **{field: values})
                before = list(values)
                values.reverse()
                values.append(5)
                self.assertEqual(getattr(command, field)(), before)

    def test_a_group_changed_behind_the_call(self):
        values = [["a", "b"], ["c", "d"]]
        command = Command("a", groups=values)
        values[0][0] = "x"
        values[1].clear()
        self.assertEqual(command.groups(), [["a", "b"], ["c", "d"]])

    def test_a_told_list_changed(self):
        for field, (make, most) in MAKE.items():
            with self.subTest(field):
                values = make(2)
                command = Command("a", **{field: values})
                getattr(command, field)().clear()
                getattr(command, field)().append(5)
                self.assertEqual(getattr(command, field)(), values)

    def test_a_told_empty_list_changed(self):
        for field in LISTS:
            with self.subTest(field):
                first, second = Command("a"), Command("b")
                getattr(first, field)().append(5)
                self.assertEqual([getattr(first, field)(), getattr(second, field)()], [[], []])
                self.assertEqual(getattr(Command("c"), field)(), [])

    def test_a_told_group_changed(self):
        command = Command("a", groups=[["a", "b"], ["c", "d"]])
        answer = command.groups()
        answer[0].append("x")
        answer[1][0] = "y"
        self.assertEqual(command.groups(), [["a", "b"], ["c", "d"]])

    def test_one_group_handed_in_twice(self):
        group = ["a", "b"]
        answer = Command("a", groups=[group, group]).groups()
        answer[0].append("c")
        self.assertEqual(answer[1], ["a", "b"])
        self.assertEqual(group, ["a", "b"])

    def test_one_list_handed_to_two_commands(self):
        values = options(2)
        first, second = Command("a", values), Command("b", values)
        first.options().clear()
        self.assertEqual(second.options(), values)

    def test_what_stands_beneath_is_as_it_was(self):
        beneath = commands(1)
        inner = Command("b", commands=beneath)
        outer = Command("a", commands=[inner])
        outer.commands()[0].commands().clear()
        self.assertEqual(outer.commands()[0].commands(), beneath)


class Refused(unittest.TestCase):
    def refused(self, field, **named):
        error = refusal(self, NoCommand, Command, **{"name": "a", **named})
        self.assertEqual(error.field, field)

    def refused_each(self, field, values):
        for value in values:
            with self.subTest(field=field, value=repr(value) if isinstance(value, str) else str(value.__class__)):
                self.refused(field, **{field: value})

    def test_name(self):
        self.refused_each("name", BAD_NAMES + NO_TEXTS)

    def test_about(self):
        self.refused_each("about", BAD_ABOUTS + NO_TEXTS)

    def test_no_list(self):
        for field in LISTS:
            self.refused_each(field, NO_LISTS)

    def test_a_tuple_of_the_right_things(self):
        for field, (make, most) in MAKE.items():
            self.refused_each(field, [tuple(make(2)), dict.fromkeys(["a", "b"]), make(2)[0]])

    def test_one_more_than_the_most(self):
        for field, (make, most) in MAKE.items():
            self.refused_each(field, [make(most + 1), make(most + 2), make(100)])

    def test_one_thing_of_another_kind(self):
        others = NO_TEXTS + ["", "a", Odd()]
        for field, (make, most) in MAKE.items():
            for at in range(3):
                values = make(2)
                self.refused_each(field, [values[:at] + [other] + values[at:] for other in others])

    def test_things_of_another_list(self):
        for field, other in itertools.permutations(LISTS, 2):
            make, most = MAKE[other]
            with self.subTest(field=field, other=other):
                self.refused(field, **{field: make(1)})

    def test_groups_of_too_few_and_too_many(self):
        sizes = [0, 1, 7, 8, 100]
        self.refused_each("groups", [[["a"] * size] for size in sizes])
        self.refused_each("groups", [[["a", "b"], ["a"] * size] for size in sizes])

    def test_groups_that_are_no_lists_of_texts(self):
        self.refused_each("groups", [[("a", "b")], ["ab"], [{"a": 1, "b": 2}], [{"a", "b"}], [None], [["a", "b"], None]])
        self.refused_each("groups", [[["a", other]] for other in NO_TEXTS])
        self.refused_each("groups", [[[other, "a"]] for other in NO_TEXTS])
        self.refused_each("groups", [["a", "b"], [["a", ["b", "c"]]], [[["a", "b"], ["c", "d"]]]])

    def test_a_list_within_itself(self):
        values = []
        values.append(values)
        for field in LISTS:
            self.refused(field, **{field: values})
        self.refused("groups", groups=[values + values])

    def test_classes_are_no_objects_of_theirs(self):
        self.refused("options", options=[Option])
        self.refused("places", places=[Place])
        self.refused("commands", commands=[Command])

    def test_the_first_of_several(self):
        for many in range(1, len(ARGUMENTS) + 1):
            for fields in itertools.combinations(ARGUMENTS, many):
                with self.subTest(fields):
                    self.refused(fields[0], **{field: 5 for field in fields})

    def test_by_place(self):
        full = ["a", options(1), places(1), groups(1), commands(1), "b"]
        for at, field in enumerate(ARGUMENTS):
            with self.subTest(field):
                handed = full[:at] + [(), ] + full[at + 1:]
                self.assertEqual(refusal(self, NoCommand, Command, *handed).field, field)

    def test_what_is_refused_is_not_changed(self):
        values = [["a", "b"], ["c"]]
        self.refused("groups", groups=values, options=options(2))
        self.assertEqual(values, [["a", "b"], ["c"]])


if __name__ == "__main__":
    unittest.main()
