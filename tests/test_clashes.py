import itertools
import unittest

from wordbench.clashes import first_clash
from wordbench.commands import Command
from wordbench.options import Option, Place


def needed(long):
    return Option(long, takes="one", needed=True)


def chain(names, **last):
    """Commands beneath one another, the last one made with what else is handed in."""
    command = Command(names[-1], **last)
    for name in reversed(names[:-1]):
        command = Command(name, commands=[command])
    return command


class Clashes(unittest.TestCase):
    def clash(self, command, path, kind, who):
        answer = first_clash(command)
        self.assertIs(answer.__class__, tuple)
        self.assertIs(answer[0].__class__, list)
        self.assertEqual(answer, (path, kind, who))

    def none(self, command):
        self.assertIs(first_clash(command), None)


class NoClash(Clashes):
    def test_a_command_alone(self):
        self.none(Command("a"))

    def test_a_large_tree(self):
        leaf = Command(
            "leaf",
            [Option("a", "a"), Option("b", "A"), Option("c"), Option("d"), needed("e"), Option("f", "f", "count", off=True)],
            [Place("x"), Place("y", "maybe"), Place("z", "any")],
            [["a", "b"], ["c", "d", "f"]],
        )
        other = Command("other", [Option("leaf", "l")], [Place("root"), Place("other", "some")])
        middle = Command("middle", [Option("a", "a"), Option("b")], None, [["a", "b"]], [leaf, other])
        root = Command("root", [Option("a", "a")], commands=[middle, leaf, Command("last", commands=[middle])])
        self.none(root)

    def test_asked_again(self):
        command = chain(["a", "b", "c", "d"])
        self.assertEqual([first_clash(command), first_clash(command)], [None, None])

    def test_by_name(self):
        self.assertIs(first_clash(command=Command("a")), None)
        deep = first_clash(command=chain(["a", "b", "c", "d", "e"]))
        self.assertEqual(deep, (["a", "b", "c", "d", "e"], "deep", "e"))


class Deep(Clashes):
    def test_four_names_are_not_too_many(self):
        for many in range(1, 5):
            with self.subTest(many):
                self.none(chain(["a", "b", "c", "d"][:many]))

    def test_five_names_are(self):
        self.clash(chain(["a", "b", "c", "d", "e"]), ["a", "b", "c", "d", "e"], "deep", "e")

    def test_the_first_that_is_too_deep(self):
        self.clash(chain(["a", "b", "c", "d", "e", "f", "g"]), ["a", "b", "c", "d", "e"], "deep", "e")

    def test_names_that_are_alike(self):
        self.clash(chain(["a"] * 6), ["a"] * 5, "deep", "a")

    def test_counted_from_the_command_that_is_handed_in(self):
        tree = chain(["a", "b", "c", "d", "e"])
        self.none(tree.commands()[0])

    def test_the_first_of_several_at_one_depth(self):
        tree = chain(["a", "b", "c", "d"], commands=[Command("x"), Command("y")])
        self.clash(tree, ["a", "b", "c", "d", "x"], "deep", "x")


class Long(Clashes):
    def test_two_options_with_one_long_name(self):
        self.clash(Command("r", [Option("a"), Option("a")]), ["r"], "long", "a")
        self.clash(Command("r", [Option("a", "x"), Option("b"), Option("a", "y", "one")]), ["r"], "long", "a")

    def test_the_first_that_stands_wrong(self):
        longs = ["a", "b", "c", "b", "a", "c"]
        self.clash(Command("r", [Option(long) for long in longs]), ["r"], "long", "b")

    def test_a_long_name_and_a_short_are_two_things(self):
        self.none(Command("r", [Option("a"), Option("b", "a")]))

    def test_a_long_name_and_the_name_of_a_command(self):
        self.none(Command("r", [Option("r"), Option("a")], commands=[Command("a", [Option("a")])]))

    def test_one_long_name_is_the_beginning_of_another(self):
        self.none(Command("r", [Option("a"), Option("ab"), Option("abc")]))


class Short(Clashes):
    def test_two_options_with_one_short(self):
        self.clash(Command("r", [Option("a", "x"), Option("b", "x")]), ["r"], "short", "x")

    def test_the_first_that_stands_wrong(self):
        shorts = ["x", "", "y", "z", "", "z", "x", "y"]
        made = [Option(f"a{at}", short) for at, short in enumerate(shorts)]
        self.clash(Command("r", made), ["r"], "short", "z")

    def test_no_shorts_do_not_clash(self):
        self.none(Command("r", [Option("a"), Option("b"), Option("c", "c"), Option("d")]))

    def test_small_and_great_are_two(self):
        self.none(Command("r", [Option("a", "x"), Option("b", "X")]))


class Name(Clashes):
    def test_a_place_with_an_options_long_name(self):
        self.clash(Command("r", [Option("a"), Option("b")], [Place("x"), Place("b")]), ["r"], "name", "b")

    def test_two_places_with_one_name(self):
        self.clash(Command("r", None, [Place("x"), Place("y"), Place("x")]), ["r"], "name", "x")

    def test_the_first_that_stands_wrong(self):
        made = [Place("x"), Place("y"), Place("y"), Place("a"), Place("x")]
        self.clash(Command("r", [Option("a")], made), ["r"], "name", "y")
        made = [Place("x"), Place("a"), Place("x")]
        self.clash(Command("r", [Option("b"), Option("a")], made), ["r"], "name", "a")

    def test_a_place_and_a_short_or_a_command(self):
        self.none(Command("r", [Option("a", "x")], [Place("x"), Place("r")]))


class Order(Clashes):
    def test_each_two_beside_one_another(self):
        right = [
            ("one", "one"), ("one", "maybe"), ("one", "some"), ("one", "any"), ("maybe", "maybe"), ("maybe", "any"),
        ]
        for first, second in itertools.product(["one", "maybe", "some", "any"], repeat=2):
            with self.subTest(first=first, second=second):
                command = Command("r", None, [Place("x", first), Place("y", second)])
                if (first, second) in right:
                    self.none(command)
                else:
                    self.clash(command, ["r"], "order", "y")

    def test_not_only_straight_behind(self):
        for last in ("one", "some"):
            with self.subTest(last):
                made = [Place("w"), Place("x", "maybe"), Place("y", "maybe"), Place("z", last)]
                self.clash(Command("r", None, made), ["r"], "order", "z")

    def test_the_first_that_stands_wrong(self):
        made = [Place("w", "maybe"), Place("x"), Place("y", "any"), Place("z")]
        self.clash(Command("r", None, made), ["r"], "order", "x")
        made = [Place("w", "some"), Place("x", "any"), Place("y")]
        self.clash(Command("r", None, made), ["r"], "order", "x")

    def test_rows_that_may_stand(self):
        for row in ("one one one", "one maybe maybe any", "one one some", "maybe maybe maybe", "any", "some"):
            with self.subTest(row):
                self.none(Command("r", None, [Place(f"p{at}", many) for at, many in enumerate(row.split())]))


class Both(Clashes):
    def test_places_and_commands(self):
        command = Command("r", None, [Place("x"), Place("y")], None, [Command("a"), Command("b")])
        self.clash(command, ["r"], "both", "r")

    def test_one_of_each_is_enough(self):
        self.clash(Command("r", None, [Place("x")], None, [Command("a")]), ["r"], "both", "r")

    def test_one_of_them_alone(self):
        self.none(Command("r", [Option("a")], [Place("x")]))
        self.none(Command("r", [Option("a")], None, None, [Command("x")]))

    def test_places_beneath(self):
        self.none(Command("r", None, None, None, [Command("a", None, [Place("x")])]))


class Group(Clashes):
    made = [Option("a"), Option("b", "z", "count"), Option("c", takes="each"), Option("d", takes="one", default="x")]

    def clash_of(self, groups, who):
        self.clash(Command("r", self.made + [needed("n")], None, groups), ["r"], "group", who)

    def test_no_long_name(self):
        for text in ("x", "", "z", "A", "--a", "no-a", "r"):
            with self.subTest(text):
                self.clash_of([["a", text]], text)
                self.clash_of([[text, "a"]], text)
                self.clash_of([["c", "d"], ["a", text]], text)

    def test_twice_in_one_group(self):
        self.clash_of([["a", "a"]], "a")
        self.clash_of([["a", "b", "c", "b", "a"]], "b")

    def test_in_two_groups(self):
        self.clash_of([["a", "b"], ["c", "b"]], "b")
        self.clash_of([["a", "b"], ["c", "d"], ["b", "a"]], "b")

    def test_a_needed_option(self):
        self.clash_of([["a", "n"]], "n")
        self.clash_of([["n", "a"]], "n")
        self.clash_of([["a", "b"], ["c", "n"]], "n")

    def test_the_first_text_whatever_is_wrong_of_it(self):
        self.clash_of([["a", "n", "x", "a"]], "n")
        self.clash_of([["a", "x", "n", "a"]], "x")
        self.clash_of([["a", "a", "n", "x"]], "a")
        self.clash_of([["a", "b"], ["b", "n"], ["x", "a"]], "b")

    def test_a_name_of_another_command(self):
        beneath = Command("s", [Option("x"), Option("y")])
        self.clash(Command("r", [Option("a")], None, [["a", "x"]], [beneath]), ["r"], "group", "x")
        beneath = Command("s", [Option("x")], None, [["x", "a"]])
        self.clash(Command("r", [Option("a")], None, None, [beneath]), ["r", "s"], "group", "a")

    def test_a_places_name_is_none(self):
        self.clash(Command("r", [Option("a")], [Place("x")], [["a", "x"]]), ["r"], "group", "x")

    def test_groups_that_may_be(self):
        self.none(Command("r", self.made + [needed("n")], None, [["a", "b"], ["d", "c"]]))
        self.none(Command("r", self.made, None, [["d", "c", "b", "a"]]))


class CommandKind(Clashes):
    def test_two_commands_with_one_name(self):
        self.clash(Command("r", commands=[Command("a"), Command("b"), Command("a")]), ["r"], "command", "a")

    def test_the_very_same_command_twice(self):
        command = Command("a")
        self.clash(Command("r", commands=[command, command]), ["r"], "command", "a")

    def test_the_first_that_stands_wrong(self):
        names = ["a", "b", "c", "c", "b", "a"]
        self.clash(Command("r", commands=[Command(name) for name in names]), ["r"], "command", "c")

    def test_a_name_above_or_beneath_is_another_thing(self):
        self.none(Command("a", commands=[Command("a", commands=[Command("a")]), Command("b", commands=[Command("a")])]))


class OrderOfKinds(Clashes):
    """One command with every clash, of which the first is taken away again and again."""

    twice = [Option("a"), Option("a")]
    one_short = [Option("b", "x"), Option("c", "x")]
    option = [Option("d")]
    like_option = [Place("d")]
    disordered = [Place("p", "maybe"), Place("q")]
    groups = [["g", "h"]]
    beneath = [Command("e"), Command("e")]

    def test_long_first(self):
        options, places = self.twice + self.one_short + self.option, self.like_option + self.disordered
        self.clash(Command("r", options, places, self.groups, self.beneath), ["r"], "long", "a")

    def test_then_short(self):
        options, places = self.one_short + self.option, self.like_option + self.disordered
        self.clash(Command("r", options, places, self.groups, self.beneath), ["r"], "short", "x")

    def test_then_name(self):
        places = self.like_option + self.disordered
        self.clash(Command("r", self.option, places, self.groups, self.beneath), ["r"], "name", "d")
        places = self.disordered + self.like_option
        self.clash(Command("r", self.option, places, self.groups, self.beneath), ["r"], "name", "d")

    def test_then_order(self):
        self.clash(Command("r", self.option, self.disordered, self.groups, self.beneath), ["r"], "order", "q")

    def test_then_both(self):
        self.clash(Command("r", self.option, [Place("p")], self.groups, self.beneath), ["r"], "both", "r")

    def test_then_group(self):
        self.clash(Command("r", self.option, [], self.groups, self.beneath), ["r"], "group", "g")

    def test_then_command(self):
        self.clash(Command("r", self.option, [], [], self.beneath), ["r"], "command", "e")

    def test_deep_ahead_of_all(self):
        tree = chain(
            ["a", "b", "c", "d", "r"],
            options=self.twice + self.one_short + self.option,
            places=self.like_option + self.disordered,
            groups=self.groups,
            commands=self.beneath,
        )
        self.clash(tree, ["a", "b", "c", "d", "r"], "deep", "r")


class Beneath(Clashes):
    def wrong(self, name, **more):
        return Command(name, [Option("x"), Option("x")], **more)

    def test_the_path_of_a_clash_beneath(self):
        tree = chain(["a", "b", "c", "d"], options=[Option("x"), Option("x")])
        self.clash(tree, ["a", "b", "c", "d"], "long", "x")

    def test_own_ahead_of_those_beneath(self):
        tree = Command("r", commands=[self.wrong("a"), Command("b"), Command("b")])
        self.clash(tree, ["r"], "command", "b")
        tree = Command("r", None, None, [["y", "z"]], [self.wrong("a")])
        self.clash(tree, ["r"], "group", "y")

    def test_those_beneath_in_order(self):
        tree = Command("r", commands=[Command("c"), self.wrong("b"), self.wrong("a")])
        self.clash(tree, ["r", "b"], "long", "x")

    def test_each_with_all_beneath_it(self):
        first = Command("a", commands=[Command("s"), Command("b", commands=[Command("c", None, [Place("p"), Place("p")])])])
        tree = Command("r", commands=[Command("e"), first, self.wrong("d")])
        self.clash(tree, ["r", "a", "b", "c"], "name", "p")

    def test_one_too_deep_ahead_of_the_next_beneath(self):
        tree = Command("r", commands=[chain(["a", "b", "c", "d"]), self.wrong("z")])
        self.clash(tree, ["r", "a", "b", "c", "d"], "deep", "d")
        tree = Command("r", commands=[self.wrong("z"), chain(["a", "b", "c", "d"])])
        self.clash(tree, ["r", "z"], "long", "x")

    def test_names_on_other_paths_have_no_bearing(self):
        leaf = Command("x", [Option("x", "x")], [Place("y")])
        self.none(Command("x", [Option("x", "x")], commands=[Command("a", [Option("y", "x")], commands=[leaf]), leaf]))

    def test_a_command_at_two_places(self):
        shared = Command("s", [Option("a", "a")], [Place("p", "any")])
        self.none(Command("r", commands=[Command("x", commands=[shared]), Command("y", commands=[shared]), shared]))

    def test_a_clash_of_a_command_at_two_places_is_told_of_the_first(self):
        shared = self.wrong("s")
        tree = Command("r", commands=[Command("x", commands=[shared]), Command("y", commands=[shared]), shared])
        self.clash(tree, ["r", "x", "s"], "long", "x")
        tree = Command("r", commands=[shared, Command("x", commands=[shared])])
        self.clash(tree, ["r", "s"], "long", "x")

    def test_a_command_at_two_places_is_too_deep_at_one(self):
        shared = Command("s", commands=[Command("t")])
        self.none(Command("r", commands=[shared, Command("a", commands=[shared])]))
        tree = Command("r", commands=[shared, chain(["a", "b"], commands=[shared])])
        self.clash(tree, ["r", "a", "b", "s", "t"], "deep", "t")


class ToldAgain(Clashes):
    def test_the_told_path_changed(self):
        tree = chain(["a", "b"], options=[Option("x"), Option("x")])
        answer = first_clash(tree)
        answer[0].append("c")
        answer[0][0] = "z"
        self.clash(tree, ["a", "b"], "long", "x")
        self.clash(tree.commands()[0], ["b"], "long", "x")

    def test_what_was_handed_in_changed_behind_the_call(self):
        options, groups = [Option("a"), Option("b")], [["a", "b"]]
        tree = Command("r", options, None, groups)
        options.append(Option("a"))
        groups[0][0] = "x"
        self.none(tree)

    def test_the_tree_is_not_changed(self):
        options, groups = [Option("a"), Option("b")], [["a", "a"]]
        tree = Command("r", options, None, groups)
        first_clash(tree)
        self.assertEqual([tree.options(), tree.groups()], [options, groups])
        self.clash(tree, ["r"], "group", "a")

    def test_asked_of_two_trees_by_turns(self):
        first, second = chain(["a"] * 5), Command("r", commands=[Command("b"), Command("b")])
        for time in range(2):
            with self.subTest(time):
                self.clash(first, ["a"] * 5, "deep", "a")
                self.clash(second, ["r"], "command", "b")


if __name__ == "__main__":
    unittest.main()
