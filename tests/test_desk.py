"""desk.py: point [56]."""

import inspect
import random
import re
import unittest

from any_values import any_values
from checking import Checks
from cluster_model import reach, small_clusters
from evenfailover import desk as module
from evenfailover.desk import Desk
from evenfailover.errors import FailoverError, NoLine, NoNumber, NotDead, NotLive, NoText, NoUndo, TooFew
from evenfailover.texts import read_cluster, show_cluster
from mutations import ODD_WORDS, replaced_characters, replaced_words
from reference import least, places

INTEGER = "(?:0|[1-9][0-9]{0,39})"
FORMS = re.compile(
    f"(?:fail|recover|owners|load|list) {INTEGER}|successor {INTEGER} {INTEGER}|live|copied|changes|undo|text"
)
WORDS = ["fail", "recover", "owners", "successor", "load", "live", "copied", "changes", "undo", "list", "text"]


def blanks(servers):
    return " ".join([str(server) for server in servers])


def answer_of(cluster, line):
    """Return what the desk must say to a line of the right form, by the methods of the cluster."""
    word, *numbers = line.split(" ")
    numbers = [int(number) for number in numbers]
    if word in ("fail", "recover", "load"):
        return str(getattr(cluster, word)(*numbers))
    if word in ("copied", "changes", "undo"):
        return str(getattr(cluster, word)())
    if word in ("live", "owners"):
        return blanks(getattr(cluster, word)(*numbers))
    if word == "successor":
        found = cluster.successor(*numbers)
        return "-" if found is None else str(found)
    if word == "text":
        return show_cluster(cluster).replace("\n", " | ")
    if numbers[0] >= cluster.count:
        raise NoNumber(numbers[0])
    depth = reach(cluster.n, cluster.failures, cluster.factor)
    return blanks(places(cluster.n, depth, cluster.count, numbers[0])[0])


def outcome(call, *arguments):
    """Return what a call returns, or its error with the attributes."""
    try:
        return call(*arguments)
    except FailoverError as error:
        return error.__class__, repr(vars(error))


def state(desk):
    return [desk.say(line) for line in ("text", "live", "copied", "changes")]


def random_line(source, fields):
    """Return a line of any form, with shards and servers that exist and that do not."""
    n, count = fields[0], fields[3]
    server = source.choice([source.randrange(n), source.randrange(n), source.randrange(n), n, n + 1, 10 ** 39])
    shard = source.choice([source.randrange(count), source.randrange(count), 0, count - 1, count, 10 ** 40 - 1])
    word = source.choice(WORDS + ["fail", "fail", "recover", "undo"])
    if word in ("fail", "recover", "load"):
        return f"{word} {server}"
    if word in ("owners", "list"):
        return f"{word} {shard}"
    return f"{word} {shard} {server}" if word == "successor" else word


def desk_fields():
    found = small_clusters(range(2, 6))
    for n, failures, factor in ((12, 4, 3), (60, 59, 1), (60, 3, 60), (60, 30, 2)):
        one = least(n, reach(n, failures, factor))
        found.extend([(n, failures, factor, one), (n, failures, factor, (10 ** 40 - 1) // one * one)])
    return found


class Lines(Checks):
    def test_examples(self):
        self.assertEqual(Desk("cluster 4 3 1 12\ndead 0").say("owners 0"), "1")
        desk = Desk("cluster 3 2 1 6\ndead -")
        first = desk.say("fail 1")
        second = desk.say("text")
        self.assertEqual((first, second, desk.say("successor 0 0")), ("2", "cluster 3 2 1 6 | dead 1", "2"))

    def test_each_form(self):
        desk = Desk("cluster 4 3 2 12\ndead 1")
        for line, answer in (
            ("text", "cluster 4 3 2 12 | dead 1"), ("live", "0 2 3"), ("copied", "0"), ("changes", "0"),
            ("list 0", "0 1 3 2"), ("list 11", "3 2 0 1"), ("owners 0", "0 3"), ("successor 0 0", "2"), ("successor 0 2", "-"),
            ("load 0", "8"), ("fail 3", "8"), ("copied", "8"), ("changes", "1"), ("live", "0 2"), ("owners 0", "0 2"),
            ("successor 0 0", "-"), ("load 2", "12"), ("fail 0", "0"), ("live", "2"), ("owners 11", "2"), ("recover 1", "12"),
            ("copied", "20"), ("text", "cluster 4 3 2 12 | dead 0 3"), ("undo", "1"), ("undo", "0"), ("undo", "3"),
            ("text", "cluster 4 3 2 12 | dead 1"), ("recover 1", "6"), ("text", "cluster 4 3 2 12 | dead -"),
        ):
            self.assertEqual(desk.say(line), answer, line)

    def test_beside_a_cluster(self):
        source = random.Random(56)
        kinds = {}
        for fields in desk_fields():
            many = source.randrange(fields[1] + 1)
            dead = sorted(source.sample(range(fields[0]), many))
            text = "cluster " + blanks(fields) + "\ndead " + (blanks(dead) or "-")
            desk, cluster = Desk(text), read_cluster(text)
            for step in range(60):
                line = random_line(source, fields)
                self.assertTrue(FORMS.fullmatch(line))
                expected = outcome(answer_of, cluster, line)
                found = outcome(desk.say, line)
                self.assertEqual(found, expected, (text, line))
                kind = expected[0] if expected.__class__ is tuple else str
                kinds[kind] = kinds.get(kind, 0) + 1
                self.assertEqual(desk.say("text"), show_cluster(cluster).replace("\n", " | "))
            self.check_undone(desk, text)
        for kind in (str, NoNumber, NotLive, NotDead, TooFew, NoUndo):
            self.assertGreater(kinds[kind], 20, kind)

    def check_undone(self, desk, text):
        """Undone to the beginning, the text of the desk is the first one."""
        for change in range(int(desk.say("changes"))):
            desk.say("undo")
        self.assertEqual(desk.say("text"), text.replace("\n", " | "))
        self.assertRaises(NoUndo, desk.say, "undo")

    def test_desk_of_a_desks_text_goes_on_alike(self):
        source = random.Random(57)
        for fields in desk_fields():
            desk = Desk("cluster " + blanks(fields) + "\ndead -")
            for step in range(8):
                outcome(desk.say, random_line(source, fields))
            other = Desk(desk.say("text").replace(" | ", "\n"))
            self.assertEqual((other.say("copied"), other.say("changes")), ("0", "0"))
            for step in range(25):
                line = random_line(source, fields)
                if line not in ("copied", "changes", "undo"):
                    self.assertEqual(outcome(desk.say, line), outcome(other.say, line), line)
            self.assertEqual(desk.say("text"), other.say("text"))

    def test_answers_are_strings(self):
        desk = Desk("cluster 5 3 2 60\ndead 4")
        for line in ("fail 0", "recover 4", "owners 7", "successor 7 1", "load 2", "live", "copied", "changes", "list 9", "text", "undo"):
            self.assertIs(desk.say(line).__class__, str, line)


class Errors(Checks):
    def test_errors_of_the_cluster(self):
        desk = Desk("cluster 4 2 1 12\ndead 1")
        before = state(desk)
        for kind, attribute, value, line in (
            (NoNumber, "value", 12, "owners 12"), (NoNumber, "value", 12, "list 12"), (NoNumber, "value", 12, "successor 12 1"),
            (NotLive, "value", 1, "successor 0 1"), (NotLive, "value", 4, "load 4"), (NotLive, "value", 1, "load 1"),
            (NotLive, "value", 1, "fail 1"), (NotLive, "value", 9, "fail 9"), (NotDead, "value", 0, "recover 0"),
            (NotDead, "value", 4, "recover 4"), (NoNumber, "value", 10 ** 40 - 1, "list " + "9" * 40),
            (NotLive, "value", 10 ** 39, "fail 1" + "0" * 39), (NotDead, "value", 10 ** 39, "recover 1" + "0" * 39),
        ):
            self.assert_error(kind, attribute, value, desk.say, line)
        self.assertRaises(NoUndo, desk.say, "undo")
        self.assertEqual(state(desk), before)
        desk.say("fail 0")
        self.assert_error(TooFew, "alive", 2, desk.say, "fail 2")
        for shard in range(12):
            self.assert_error(TooFew, "alive", 2, desk.say, f"successor {shard} 2")

    def check_no_line(self, desk, line):
        before = state(desk)
        self.assert_error(NoLine, "value", line, desk.say, line)
        self.assertEqual(state(desk), before)

    def desk(self):
        desk = Desk("cluster 4 3 1 12\ndead 3")
        desk.say("fail 1")
        return desk

    def test_lines_of_no_form(self):
        desk = self.desk()
        for line in (
            "", " ", "  ", "\n", "fail", "fail ", "fail 0 ", " fail 0", "fail  0", "fail 0 1", "Fail 0", "FAIL 0", "fail 00",
            "fail 01", "fail -1", "fail +1", "fail -", "fail a", "fail 0.0", "fail 0\n", "fail\t0", "fail 0\r", "fail, 0",
            "recover", "recover 3 3", "recover x", "owners", "owners 0 0", "owners 012", "successor", "successor 0",
            "successor 0 0 0", "successor 0 a", "successor a 0", "successor  0 0", "successor 0  0", "successor 0 0 ",
            "load", "load 0 0", "live ", "live 0", " live", "lives", "copied 0", "changes 0", "undo 0", "undo 1", "undo ",
            "list", "list 0 0", "list -", "text 0", "text ", "text\n", "texts", "dead", "dead -", "cluster 4 3 1 12", "help",
            "copy", "len", "fail " + "1" * 41, "list " + "0" * 40, "fail 1" + "0" * 40, "fail \u0661", "fail \u00b2",
            "live\ncopied", "fail 0\nfail 2", "list 0 | text", "undo undo", "fail fail", "0", "0 fail", "answer", "say",
        ):
            self.check_no_line(desk, line)

    def test_values_that_are_no_strings(self):
        desk = self.desk()
        for value in any_values():
            self.check_no_line(desk, value)
        for value in (["undo"], ("undo",), {"undo": 1}, [b"undo".decode()], ("fail", 0), ["fail", 0], [["live"]]):
            self.check_no_line(desk, value)

    def test_changed_lines(self):
        source = random.Random(58)
        fields = (4, 3, 1, 12)
        seen = {True: 0, False: 0}
        for round_number in range(150):
            desk, cluster = Desk("cluster 4 3 1 12\ndead 2"), read_cluster("cluster 4 3 1 12\ndead 2")
            for prepared in ("fail 0", "recover 2"):
                self.assertEqual(desk.say(prepared), answer_of(cluster, prepared))
            line = random_line(source, fields)
            for other in replaced_words(source, line, 6) + replaced_characters(source, line, 6):
                right = FORMS.fullmatch(other) is not None
                seen[right] += 1
                if right:
                    self.assertEqual(outcome(desk.say, other), outcome(answer_of, cluster, other), other)
                else:
                    self.check_no_line(desk, other)
        self.assertGreater(seen[True], 100)
        self.assertGreater(seen[False], 500)

    def test_odd_words_anywhere(self):
        desk = self.desk()
        for word in WORDS:
            for odd in ODD_WORDS:
                for line in (odd, f"{word} {odd}", f"{odd} {word}", f"{word} 0 {odd}", f"{word} {odd} 0"):
                    if FORMS.fullmatch(line) is None:
                        self.check_no_line(desk, line)

    def test_no_line_before_anything_else(self):
        # The server is not live, the shard does not exist, there is nothing to undo: the form comes first.
        desk = Desk("cluster 4 3 1 12\ndead 3")
        for line in ("fail 3 3", "fail 03", "owners 99 1", "successor 99", "undo 1", "undo  ", "load 3 ", "list 99 "):
            self.check_no_line(desk, line)


class Creation(Checks):
    def test_same_error_as_read_cluster(self):
        for text in ("", "cluster 4 3 1 12", "cluster 4 3 1 18\ndead -", "cluster 4 3 1 12\ndead 4", "table 2 2\n0 1",
                     "cluster 4 3 1 12\ndead -\n", "cluster 3 1 1 6\ndead 0 1", "cluster 4 3 1 12 | dead -"):
            with self.assertRaises(NoText) as caught:
                read_cluster(text)
            self.assert_error(NoText, "row", caught.exception.row, Desk, text)

    def test_any_value(self):
        for value in any_values():
            if value.__class__ is not str:
                self.assert_error(NoText, "row", 0, Desk, value)

    def test_desks_are_independent(self):
        one, other = Desk("cluster 4 3 1 12\ndead -"), Desk("cluster 4 3 1 12\ndead -")
        one.say("fail 0")
        self.assertEqual(other.say("live"), "0 1 2 3")
        self.assertEqual(other.say("changes"), "0")

    def test_no_changes_at_first(self):
        desk = Desk("cluster 4 3 1 12\ndead 0 2")
        self.assertEqual(state(desk), ["cluster 4 3 1 12 | dead 0 2", "1 3", "0", "0"])
        self.assertRaises(NoUndo, desk.say, "undo")


class Interface(Checks):
    def test_arguments_by_name(self):
        desk = Desk(text="cluster 4 3 1 12\ndead 0")
        self.assertEqual(desk.say(line="owners 0"), "1")

    def test_names_in_their_order_and_file(self):
        self.assertEqual(Desk.__module__, "evenfailover.desk")
        self.assertIs(module.Desk, Desk)
        self.assertEqual(list(inspect.signature(Desk).parameters), ["text"])
        self.assertEqual(list(inspect.signature(vars(Desk)["say"]).parameters), ["self", "line"])

    def test_same_line_same_answer(self):
        desk = Desk("cluster 5 3 2 60\ndead 4")
        desk.say("fail 2")
        for line in ("text", "live", "copied", "changes", "owners 3", "list 3", "load 0", "successor 3 0"):
            self.assertEqual(desk.say(line), desk.say(line))


if __name__ == "__main__":
    unittest.main()
