"""What the tests share: calls written by name, answers taken apart."""

from meterbookdesk.book import answers

PLACES = {
    "join": 0, "quit": 1, "raise": 2, "lower": 3, "define": 4, "tally": 5,
    "set": 6, "reset": 7, "tick": 8, "merge": 9, "meter": 10, "means": 11,
    "levels": 12, "inside": 13, "busy": 14, "table": 15, "classes": 16, "quantile": 17,
    "below": 18, "value": 19, "above": 20, "clock": 21, "live": 22, "clear": 23,
}

BIG = 10 ** 18
BILLION = 10 ** 9


def flat(calls):
    """The list that is handed in, of calls like ("join", 0, 1, 2, 3)."""
    numbers = []
    for call in calls:
        numbers.append(PLACES[call[0]])
        numbers.extend(call[1:])
    return numbers


def apart(answered):
    """One list for each answer, of the list that is given back."""
    found = []
    at = 0
    while at < len(answered):
        behind = at + 1 + answered[at]
        if behind > len(answered):
            raise ValueError("the last answer is shorter than its count")
        found.append(answered[at + 1:behind])
        at = behind
    return found


def run(*calls):
    """The answers of all calls, a list each."""
    found = apart(answers(flat(calls)))
    if len(found) != len(calls):
        raise ValueError("as many answers as calls are asked for")
    return found


def last(*calls):
    """The answer of the last call."""
    return run(*calls)[-1]
