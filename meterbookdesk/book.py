"""The function of the interface: a list of calls in, the list of their answers out."""

from meterbookdesk.changes import change, is_change
from meterbookdesk.forms import are_in_range, count_of_numbers, has_time
from meterbookdesk.questions import question
from meterbookdesk.refusals import BEFORE_CLOCK, DONE, OUT_OF_RANGE
from meterbookdesk.state import Book


def answers(calls):
    """Go through the calls on a new book; each answer stands behind its count."""
    book = Book()
    answered = []
    at = 0
    while at < len(calls):
        place = calls[at]
        behind = at + 1 + count_of_numbers(place)
        answer = answer_of(book, place, calls[at + 1:behind])
        answered.append(len(answer))
        answered.extend(answer)
        at = behind
    return answered


def answer_of(book, place, numbers):
    """The answer of one call, done on the book."""
    if not are_in_range(place, numbers):
        return [OUT_OF_RANGE]
    if has_time(place) and numbers[0] < book.clock:
        return [BEFORE_CLOCK]
    if not is_change(place):
        return question(book, place, numbers)
    outcome = change(book, place, numbers)
    if outcome == DONE and has_time(place):
        book.clock = numbers[0]
    return [outcome]
