"""Words, each told once by a number, and terms whose parts have words.

Nothing is checked here. A sign for the word with the number k is told, as in a name,
by n + 2 k if it is over, and by n + 2 k + 1 if it is under, n being how many letters
there are.
"""

from oncework.ground.copying import call_made, from_runs

# The number of all words that have more integers than a name can have.
TOO_LONG = -1


def told_order(words, letters, last, room):
    """The indexes of the words that are told for the one with the index `last`, in order.

    None if they have more than `room` integers together; `room` None lets any number.
    """
    at = {}
    order = []
    size = 0
    waiting = [(last, False)]
    while len(waiting) > 0:
        number, are_told = waiting.pop()
        if number in at:
            continue
        if are_told:
            at[number] = len(order)
            order.append(number)
            continue
        size += len(words[number])
        if room is not None and size > room:
            return None
        waiting.append((number, True))
        # What is read first has to lie on top.
        for sign in reversed(words[number][1::2]):
            waiting.append(((sign - letters) // 2, False))
    return order


def told_words(words, letters, order):
    """The words with these indexes, told as a name tells them."""
    at = {number: k for k, number in enumerate(order)}
    told = []
    for number in order:
        word = list(words[number])
        for k in range(1, len(word), 2):
            sign = word[k] - letters
            word[k] = letters + 2 * at[sign // 2] + sign % 2
        told.append(tuple(word))
    return tuple(told)


class Book:
    """All words over so many letters that were met, none of them with more than `most` integers."""

    def __init__(self, letters, most):
        self.letters = letters
        self.most = most
        self.words = [(letter,) for letter in range(letters)]
        self.numbers = {(letter,): letter for letter in range(letters)}

    def number_of(self, word):
        """The number of a word that is told by a tuple with the numbers of this book."""
        if len(word) > self.most:
            return TOO_LONG
        number = self.numbers.setdefault(word, len(self.words))
        if number == len(self.words):
            self.words.append(word)
        return number

    def joined(self, number, way, sign, other):
        """The number of a word, a sign, and another word; `way` is 0 for over, 1 for under."""
        if TOO_LONG in (number, sign, other):
            return TOO_LONG
        told = self.letters + 2 * sign + way
        return self.number_of(self.words[number] + (told,) + self.words[other])

    def name_of(self, number):
        """The name that tells a word, None if it is too long."""
        if number == TOO_LONG:
            return None
        order = told_order(self.words, self.letters, number, self.most)
        if order is None:
            return None
        return told_words(self.words, self.letters, order)

    def number_of_name(self, name, letters, parts):
        """The number of the word that a name tells.

        The name is one for so many letters, and `parts` has the word for each of them.
        """
        told = []
        for word in name:
            told.append(self.number_led(word, letters, parts, told))
        return told[-1]

    def number_led(self, word, letters, parts, told):
        """The number of one word of a name, the words ahead of it having those that are told."""
        led = []
        for k, sign in enumerate(word):
            number = parts[sign] if k % 2 == 0 else told[(sign - letters) // 2]
            if number == TOO_LONG or len(led) > self.most:
                return TOO_LONG
            if k % 2 == 0:
                led.extend(self.words[number])
            else:
                led.append(self.letters + 2 * number + (sign - letters) % 2)
        return self.number_of(tuple(led))


class Run:
    """A term that steps change, and the word of each of its parts."""

    def __init__(self, book, term):
        self.book = book
        self.parts = list(term)
        self.words = list(range(len(term)))

    def twin(self):
        """A run that stands at the same term and goes on by itself."""
        run = Run(self.book, ())
        run.parts = list(self.parts)
        run.words = list(self.words)
        return run

    def do(self, place):
        """Does a step, and returns the integers that it makes."""
        end, made, runs, copies = call_made(self.parts, place)
        told = from_runs(self.words, runs)
        sign = self.words[place + 1]
        for at, parameter in copies:
            told[at] = self.book.joined(self.words[parameter], 1, sign, told[at])
        told[0] = self.book.joined(self.words[place], 0, sign, told[0])
        self.parts[place:end] = made
        self.words[place:end] = told
        return made
