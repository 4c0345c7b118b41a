"""Texts that differ a little from a text."""

ODD_WORDS = [
    "", "-", "00", "01", "-1", "+1", "1.0", "1e3", "0x1", "1_000", "a", "dead", "table", "cluster", "live", "None",
    "\u00b2", "\u0663", "\uff11", "1\u00a0", "1" * 40, "9" * 40, "1" * 41, "1" + "0" * 40, "0" * 41, "1" * 5000,
    "\t1", "1\t", "1\r", "True", "60", "61", "2", "0", "1", "59",
]


def replaced_words(source, text, many):
    """Return so many texts in which a word is replaced, removed, repeated or inserted."""
    found = []
    for number in range(many):
        rows = [row.split(" ") for row in text.split("\n")]
        words = source.choice(rows)
        at = source.randrange(len(words))
        action = source.randrange(4)
        if action == 0:
            words[at] = source.choice(ODD_WORDS)
        elif action == 1:
            del words[at]
        elif action == 2:
            words.insert(at, words[at])
        else:
            words.insert(source.randrange(len(words) + 1), source.choice(ODD_WORDS))
        found.append("\n".join([" ".join(row) for row in rows]))
    return found


def replaced_characters(source, text, many):
    """Return so many texts in which a character is replaced, removed or inserted."""
    found = []
    for number in range(many):
        at = source.randrange(len(text) + 1)
        new = source.choice(["", "", " ", "\n", "\r", "\t", "0", "1", "2", "5", "9", "-", "a", "\x00", "\u0661"])
        found.append(text[:at] + new + text[at + source.randrange(2):])
    return found


def replaced_rows(source, text, many):
    """Return so many texts in which a row is removed, repeated, inserted or exchanged."""
    found = []
    for number in range(many):
        rows = text.split("\n")
        at = source.randrange(len(rows))
        action = source.randrange(4)
        if action == 0:
            del rows[at]
        elif action == 1:
            rows.insert(source.randrange(len(rows) + 1), rows[at])
        elif action == 2:
            rows.insert(at, source.choice(["", " ", "-", "dead -", "dead 0", "0 1", "table 2 2", "1"]))
        else:
            source.shuffle(rows)
        found.append("\n".join(rows))
    return found


def mutated(source, text, many):
    """Return texts changed once in each way, and some changed twice."""
    found = []
    for change in (replaced_words, replaced_characters, replaced_rows):
        found.extend(change(source, text, many))
    twice = []
    for other in found[::3]:
        twice.extend(replaced_characters(source, other, 1) + replaced_words(source, other, 1))
    ends = [text + "\n", "\n" + text, text + " ", " " + text, text + "\n\n", text + "\n ", text + "\r\n", ""]
    return found + twice + ends
