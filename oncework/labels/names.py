"""Names: words that grow with each step, and that all copies of a step have alike."""

from oncework.errors import InvalidName, InvalidOperation, TooMany
from oncework.ground.shapes import is_whole_within
from oncework.ground.steps import check_history
from oncework.ground.terms import check_place, check_small_term
from oncework.labels.words import Book, Run, told_order, told_words

MAX_WORDS = 2000


def run_along(term, history):
    """The run of a term along what is known to be a history."""
    run = Run(Book(len(term), MAX_WORDS), term)
    for place in history:
        run.do(place)
    return run


def told_name(book, number):
    """The name that tells a word, refusing one that is too long."""
    name = book.name_of(number)
    if name is None:
        raise TooMany(MAX_WORDS)
    return name


def names_along(term, history):
    """The names of all parts of the end of the history."""
    check_small_term(term)
    check_history(term, history)
    run = run_along(term, history)
    names = {}
    for number in run.words:
        if number not in names:
            names[number] = told_name(run.book, number)
    return tuple([names[number] for number in run.words])


def part_name(term, history, place):
    """The name of a part of the end of the history."""
    check_small_term(term)
    check_history(term, history)
    run = run_along(term, history)
    check_place(run.parts, place)
    return told_name(run.book, run.words[place])


def step_name(term, history):
    """The name of the last step of the history."""
    check_small_term(term)
    check_history(term, history)
    if len(history) == 0:
        raise InvalidOperation("a history without steps")
    run = run_along(term, history[:-1])
    return told_name(run.book, run.words[history[-1] + 1])


def fits_word(value, letters, ahead):
    """Whether the value is told like a word behind so many others."""
    if not isinstance(value, tuple) or len(value) % 2 == 0:
        return False
    for k, sign in enumerate(value):
        if k % 2 == 0:
            if not is_whole_within(sign, 0, letters - 1):
                return False
        elif not is_whole_within(sign, letters, letters + 2 * ahead - 1):
            return False
    return True


def fits_name(letters, value):
    """Whether the value is told like a name for so many letters."""
    if not isinstance(value, tuple) or len(value) == 0:
        return False
    for k, word in enumerate(value):
        if not fits_word(word, letters, k):
            return False
    unlike = {word: True for word in value}
    if len(unlike) < len(value):
        return False
    return told_order(value, letters, len(value) - 1, None) == list(range(len(value)))


def is_name(term, value):
    """Whether the value is told like a name for the letters of the term."""
    check_small_term(term)
    return fits_name(len(term), value)


def fits_passed_name(letters, value):
    """Whether the value is a name that may be passed."""
    return fits_name(letters, value) and sum([len(word) for word in value]) <= MAX_WORDS


def check_name(letters, name):
    """Refuse what is no name for so many letters."""
    if not fits_passed_name(letters, name):
        raise InvalidName("not a name of the term")


def name_height(term, name):
    """How deep words stand within the signs of words."""
    check_small_term(term)
    check_name(len(term), name)
    heights = []
    for word in name:
        inner = [heights[(sign - len(term)) // 2] + 1 for sign in word[1::2]]
        heights.append(max([0] + inner))
    return heights[-1]


def letters_of(term, name):
    """All letters in all words, ascending."""
    check_small_term(term)
    check_name(len(term), name)
    return tuple(sorted({letter for word in name for letter in word[::2]}))


def inner_names(term, name):
    """The names of all words that are told ahead of the last one, in their order."""
    check_small_term(term)
    check_name(len(term), name)
    letters = len(term)
    orders = [told_order(name, letters, k, None) for k in range(len(name) - 1)]
    return tuple([told_words(name, letters, order) for order in orders])


def led_name(term, history, name):
    """The name for the letters of the term that a name for those of the end tells."""
    check_small_term(term)
    check_history(term, history)
    run = run_along(term, history)
    check_name(len(run.parts), name)
    return told_name(run.book, run.book.number_of_name(name, len(run.parts), run.words))
