"""The promise over the whole program, by rows of drawn words over some trees of commands."""

import random
import unittest

from benches import BenchCase, a_bench, covers, ending, fields_of, sample_bench, state
from wordbench.answers import answer_of, read
from wordbench.commands import Command
from wordbench.errors import Fault, Unmade
from wordbench.faults import fault, right_words
from wordbench.makers import own_makers
from wordbench.onward import mended, onward, rest
from wordbench.options import Option, Place
from wordbench.readings import Reading
from wordbench.ways import clipped, spelled, units

MANY = 700


def picky(word):
    if "z" in word:
        raise Unmade("a z")
    return [word]


TABLE = {**own_makers(), "picky": (picky, ""), "stroke": (str, "-")}


def flat_bench():
    return a_bench([
        Option("all", "a", off=True), Option("also", "A", "count", off=True), Option("one", "o", "one", "picky"),
        Option("only", "", "last", "whole", default="4"), Option("each", "e", "each", "stroke", needed=True), Option("no", "n"), Option("not", "t", off=True),
    ], [Place("p"), Place("q", "maybe", "whole", default="1"), Place("r", "any", "picky")], [["all", "no"], ["one", "only", "not"]], table=TABLE)


def deep_bench():
    options = [Option("x", "x", "count", off=True), Option("xy", "y", "each"), Option("need", "n", "one", "pair", needed=True)]
    leaf = Command("leaf", options, [Place("p", "some", "picky")], [["x", "xy"]])
    lean = Command("lean", [Option("lean", "l", "last", default="-")], [Place("p", "maybe", default="--")])
    mid = Command("mid", options[:2], [], [], [leaf, lean])
    low = Command("low", [], [], [], [Command("a", [], [], [], [leaf]), Command("ab", options[2:]), Command("b", [], [Place("p"), Place("q")])])
    return a_bench(options[:1], commands=[mid, low, lean], table=TABLE)


def plain_bench():
    return a_bench([Option("f", "f"), Option("g", "g", "last")], [Place("p", "any")], table=TABLE)


BENCHES = [flat_bench, deep_bench, plain_bench, sample_bench]


def words_about(command):
    """Words of each kind that say something of a command, rightly or not."""
    words = ["", "-", "--", "5", "-5", "z", ":", "a b", "it's", "--zz", "-z", "--=", "---"]
    for option in command.options():
        name, short = option.long(), option.short() or "q"
        words += [f"--{name}", f"--{name}=5", f"--{name}=", f"--{name}=a:b", f"--{name[:-1]}", f"--{name[0]}=x", f"--no-{name}", f"--no-{name[0]}"]
        words += [f"-{short}", f"-{short}5", f"-{short}{short}", f"-{short}=", f"-x{short}", f"-{short}xz", f"-{short}q", f"-f{short}a:b", f"-Aa{short}"]
    for beneath in command.commands():
        words += [beneath.name(), beneath.name(), beneath.name(), beneath.name()[:-1], beneath.name()[:1]]
    return words


def drawn_row(bench, draw):
    """A row that mostly goes on as it may, with any words among it."""
    reading, row = Reading(bench), []
    for _ in range(draw.randrange(9)):
        command = bench.root()
        for name in reading.path()[1:]:
            command = [beneath for beneath in command.commands() if beneath.name() == name][0]
        word = draw.choice(words_about(command))
        trial = reading.copied()
        try:
            trial.take(word)
        except Fault:
            if draw.randrange(20) > 0:
                continue
        row.append(word)
        reading = trial
    return row


def drawn_rows(bench):
    draw = random.Random(11)
    rows = []
    for _ in range(MANY):
        row = drawn_row(bench, draw)
        rows += [row, mended(bench, row)] if draw.randrange(3) else [row]
    return rows


def told(tell, *handed):
    """What is told, or the fault's class and fields."""
    try:
        return tell(*handed)
    except Fault as error:
        return error.__class__, fields_of(error)


class WholeCase(BenchCase):
    def rows(self):
        for make in BENCHES:
            bench = make()
            for row in drawn_rows(bench):
                yield bench, row

    def rows_let_by(self):
        many = 0
        for bench, row in self.rows():
            if fault(bench, row) is None:
                many += 1
                yield bench, row
        self.assertGreater(many, MANY)


class OneReadingOrOneFault(WholeCase):
    def test_each_row(self):
        kinds = set()
        for bench, row in self.rows():
            found = fault(bench, row)
            self.assertEqual(fault(bench, list(row)), found)
            answers = [told(tell, bench, row) for tell in (read, units, spelled, clipped)]
            if found is None:
                self.assertEqual(right_words(bench, row), row)
                self.assertEqual(rest(bench, row), [])
                continue
            at, kind, who = found
            kinds.add(kind)
            error, fields = answers[0]
            self.assertEqual(answers, [(error, fields)] * 4)
            self.assertEqual((fields["at"], error.__name__.lower(), fields["who"]), found)
            self.assertEqual(right_words(bench, row), row[:at])
            for more in ([], ["x"], ["--", "-z"], row):
                if at < len(row):
                    self.assertEqual(fault(bench, row[:at + 1] + more), found)
        self.assertEqual(len(kinds), 10)

    def test_a_word_is_refused_just_where_no_row_that_is_let_by_begins_with_it(self):
        for bench, row in self.rows():
            right = right_words(bench, row)
            self.assertIsNone(fault(bench, right + rest(bench, right)))

    def test_each_sign_belongs_to_one_part(self):
        for bench, row in self.rows():
            reading = Reading(bench)
            for word in right_words(bench, row):
                reading.take(word)
            self.assertTrue(covers(reading), row)

    def test_readings_gone_on_with_copied_and_refused_are_as_if_each_was_read_alone(self):
        for make in BENCHES:
            bench = make()
            rows = drawn_rows(bench)[:200]
            for row, other in zip(rows, rows[1:]):
                reading, copies = Reading(bench), []
                for word in row:
                    copies.append(reading.copied())
                    told(reading.take, other[len(copies) % len(other)] if other and len(copies) % 3 == 0 else "--zz")
                    reading = copies[-1].copied()
                    if told(reading.take, word) is not None:
                        break
                for number, copy in enumerate(copies):
                    alone = Reading(bench)
                    for word in row[:number]:
                        alone.take(word)
                    self.assertEqual(state(copy), state(alone))


class WaysOfSayingTheSame(WholeCase):
    def test_spelled_clipped_written_and_read_back(self):
        for bench, row in self.rows_let_by():
            answer = read(bench, row)
            at_length, short, out = spelled(bench, row), clipped(bench, row), answer.written()
            for words in (at_length, short, out):
                back = read(bench, words)
                self.assertEqual(back, answer)
                self.tell_alike(bench, back, answer)
            self.assertEqual(spelled(bench, short), at_length)
            self.assertEqual(clipped(bench, at_length), short)
            self.assertEqual(clipped(bench, short), short)
            self.assertEqual(spelled(bench, out), out)
            self.assertEqual([word for unit in units(bench, row) for word in unit], row)

    def tell_alike(self, bench, one, two):
        self.assertEqual([one.path(), one.written(), len(one), repr(one), str(one)], [two.path(), two.written(), len(two), repr(two), str(two)])
        command = None
        for depth, name in enumerate(one.path()):
            command = bench.root() if command is None else [each for each in command.commands() if each.name() == name][0]
            for each in [option.long() for option in command.options()] + [place.name() for place in command.places()]:
                self.assertEqual(one.value(each, depth), two.value(each, depth))
                self.assertEqual(one.times(each, depth), two.times(each, depth))
                self.assertEqual(one.value(each), two.value(each))

    def test_an_answer_of_a_reading_is_the_answer_of_its_row(self):
        for bench, row in self.rows_let_by():
            reading = Reading(bench)
            for word in row:
                reading.take(word)
            self.assertEqual(answer_of(reading), read(bench, row))

    def test_the_length_counts_those_that_are_said(self):
        for bench, row in self.rows_let_by():
            said = {(part[3], part[5]) for part in self.parts(bench, row) if part[4] in ("option", "off", "place")}
            self.assertEqual(len(read(bench, row)), len(said))

    def parts(self, bench, row):
        reading = Reading(bench)
        for word in row:
            reading.take(word)
        return reading.parts()

    def test_the_order_of_options_has_no_bearing(self):
        draw = random.Random(5)
        many = 0
        for bench, row in self.rows_let_by():
            begin = max([part[0] + 1 for part in self.parts(bench, row) if part[4] == "command"], default=0)
            end = min([part[0] for part in self.parts(bench, row) if part[4] == "divider"], default=len(row))
            said = [part[5] for part in self.parts(bench, row) if part[0] >= begin and part[4] in ("option", "off")]
            if len(said) != len(set(said)):
                continue
            ahead = units_between(units(bench, row), begin, end)
            options = [unit for unit in ahead if unit[0].startswith("-") and unit != ["-"]]
            places = [unit for unit in ahead if unit not in options]
            for _ in range(3):
                draw.shuffle(options)
                order = list(places)
                for unit in options:
                    order.insert(draw.randrange(len(order) + 1), unit)
                again = row[:begin] + [word for unit in order for word in unit] + row[end:]
                if [unit for unit in order if unit in places] == places:
                    many += 1
                    self.assertEqual(read(bench, again), read(bench, row), (row, again))
        self.assertGreater(many, 300)


def units_between(found, begin, end):
    """The units of the words from begin to end."""
    kept, at = [], 0
    for unit in found:
        if begin <= at < end:
            kept.append(unit)
        at += len(unit)
    return kept


class WhatGoesOn(WholeCase):
    def test_mended_rows_are_let_by(self):
        for bench, row in self.rows():
            words = mended(bench, row)
            self.assertIsNone(fault(bench, words))
            self.assertEqual(words[:len(right_words(bench, row))], right_words(bench, row))
            if fault(bench, row) is None:
                self.assertEqual(words, row)

    def test_what_goes_on_goes_on(self):
        for bench, row in self.rows():
            right = right_words(bench, row)
            found = onward(bench, right)
            self.assertTrue(found)
            for kind, who, words in found:
                self.assertIsNone(fault(bench, right + words))
                if kind != "end":
                    self.assertEqual(len(words), 1 + len(rest(bench, right + words[:1])))
            self.assertEqual(("end", "", []) in found, fault(bench, right) is None)

    def test_each_word_that_may_be_taken_says_one_of_the_told_things_first(self):
        for bench, row in self.rows():
            reading = Reading(bench)
            for number, word in enumerate(right_words(bench, row)):
                before = [(kind, who) for kind, who, _ in onward(bench, row[:number])]
                reading.take(word)
                first = [part for part in reading.parts() if part[0] == number][0]
                self.assertIn(first[4:], before)

    def test_a_rest_gets_shorter_word_by_word(self):
        for bench, row in self.rows():
            right = right_words(bench, row)
            words = rest(bench, right)
            for number in range(len(words) + 1):
                self.assertEqual(len(rest(bench, right + words[:number])), len(words) - number)

    def test_the_end_of_a_reading_is_the_fault_of_its_row(self):
        for bench, row in self.rows():
            right = right_words(bench, row)
            reading = Reading(bench)
            for word in right:
                reading.take(word)
            end, found = ending(reading), fault(bench, right)
            self.assertEqual(end is None, found is None)
            if end is not None:
                self.assertEqual((end[1]["at"], end[0].__name__.lower(), end[1]["who"]), found)


if __name__ == "__main__":
    unittest.main()
