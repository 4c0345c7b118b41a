"""A desk: a cluster that is asked and changed by lines of text."""

from evenfailover.errors import NoLine
from evenfailover.texts import read_cluster, read_numbers, show_cluster, show_row

# How many integers follow the first word of a line.
FORMS = {
    "fail": 1,
    "recover": 1,
    "owners": 1,
    "successor": 2,
    "load": 1,
    "live": 0,
    "copied": 0,
    "changes": 0,
    "undo": 0,
    "list": 1,
    "text": 0,
}


def read_line(line):
    """Return (word, numbers) of a line, and raise NoLine if it has none of the forms."""
    if not isinstance(line, str):
        raise NoLine(line)
    words = line.split(" ")
    numbers = read_numbers(words[1:])
    if numbers is None or FORMS.get(words[0]) != len(numbers):
        raise NoLine(line)
    return words[0], numbers


def answer_alone(cluster, word):
    """Return the answer to a line of one word."""
    if word == "live":
        return show_row(cluster.live())
    if word == "copied":
        return str(cluster.copied())
    if word == "changes":
        return str(cluster.changes())
    if word == "undo":
        return str(cluster.undo())
    return show_cluster(cluster).replace("\n", " | ")


def answer_one(cluster, word, number):
    """Return the answer to a line with one integer."""
    if word == "fail":
        return str(cluster.fail(number))
    if word == "recover":
        return str(cluster.recover(number))
    if word == "load":
        return str(cluster.load(number))
    if word == "owners":
        return show_row(cluster.owners(number))
    return show_row(cluster.list_of(number))


def answer_successor(cluster, shard, server):
    """Return the answer to the line with two integers."""
    found = cluster.successor(shard, server)
    if found is None:
        return "-"
    return str(found)


class Desk:
    """A cluster behind a desk."""

    def __init__(self, text):
        self.cluster = read_cluster(text)

    def say(self, line):
        """Do what a line says, and return the answer."""
        word, numbers = read_line(line)
        if len(numbers) == 0:
            return answer_alone(self.cluster, word)
        if len(numbers) == 1:
            return answer_one(self.cluster, word, numbers[0])
        return answer_successor(self.cluster, numbers[0], numbers[1])
