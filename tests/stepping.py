"""How many steps a call takes, counted in two ways."""

import sys

# "Some ten thousand steps" of point [2], held by either count.
LIMIT = 10000


def steps(function, arguments):
    """Return how many rows and how many instructions a call runs, those of what it calls included."""
    rows = instructions = 0

    def note(frame, event, detail):
        nonlocal rows, instructions
        frame.f_trace_opcodes = True
        if event == "line":
            rows += 1
        if event == "opcode":
            instructions += 1
        return note

    before = sys.gettrace()
    sys.settrace(note)
    try:
        function(*arguments)
    finally:
        sys.settrace(before)
    return rows, instructions
