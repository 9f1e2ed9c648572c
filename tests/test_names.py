"""Stage 5: names."""

import random
import unittest

import meanings
from oncework.errors import InvalidHistory, InvalidName, InvalidOperation, InvalidPlace
from oncework.errors import InvalidTerm, TooMany
from oncework.ground.behind import are_one_class
from oncework.ground.standard import standard_of
from oncework.ground.steps import (end_of, is_step, origins, rests_behind, step_done, steps_of)
from oncework.labels import names as module
from oncework.labels.names import (inner_names, is_name, led_name, letters_of, name_height,
                                   names_along, part_name, step_name)
from samples import (CHAIN, COPY, DOUBLING, FORTY, FORTY_ONE, I, LOOP, TWICE, WRONG_NAMES,
                     doubling_history, lively_terms, some_history)

FIFTH = ((1,), (6,), (3, 11, 5, 12, 7, 13, 8))


def cases(seed, many, parts, most):
    rng = random.Random(seed)
    return [(term, some_history(rng, term, most)) for term in lively_terms(seed, many, parts)]


CASES = cases(51, 500, 34, 6)


def size(name):
    return sum([len(word) for word in name])


def word_of(letters, *signs):
    """A word of so many letters, each one 1, with these signs between them in turn."""
    word = [1]
    for k in range(letters - 1):
        word += [signs[k % len(signs)], 1]
    return tuple(word)


# Of 2000 integers, and of 2001: for TWICE, whose signs begin at 10.
JUST = ((1,), word_of(1000, 10, 11))
ABOVE = ((1,), (2,), word_of(1000, 10, 13))


class Along(unittest.TestCase):

    def test_the_example(self):
        self.assertEqual(
            [step_name(TWICE, (0,)), step_name(TWICE, (5,)), step_name(TWICE, (0, 1)),
             step_name(TWICE, (0, 1, 0)), step_name(TWICE, (5, 0, 0)) == step_name(TWICE, (0, 1, 0))],
            [((1,),), ((6,),), ((6,),), FIFTH, True])
        self.assertEqual(module.MAX_WORDS, 2000)

    def test_many_names_as_the_document_tells_them(self):
        for term, history in CASES:
            wanted = meanings.part_names(term, history)
            self.assertEqual(list(names_along(term, history)), wanted, (term, history))
            for place in range(0, len(wanted), 3):
                self.assertEqual(part_name(term, history, place), wanted[place])
            if history:
                self.assertEqual(step_name(term, history), meanings.step_name(term, history))

    def test_each_part_of_the_first_term_has_a_letter(self):
        for term, _ in CASES[:30] + [(FORTY, ())]:
            self.assertEqual(names_along(term, ()), tuple([((k,),) for k in range(len(term))]))

    def test_a_body_that_is_the_parameter_itself(self):
        self.assertEqual(names_along(CHAIN, (0,)),
                         (((1,), (0, 7, 2, 8, 3)), ((4,),), ((5,),), ((6,),)))
        self.assertEqual(part_name((0, -1, 1, 9), (0,), 0), ((1,), (0, 4, 2, 5, 3)))

    def test_an_argument_that_is_dropped(self):
        self.assertEqual(names_along((0, -1, 5, 0, -1, 1, 1), (0,)), (((1,), (0, 7, 2)),))

    def test_an_argument_that_comes_once(self):
        self.assertEqual(names_along((0, -1, 0, 2, 1, 7), (0,)),
                         (((1,), (0, 6, 2)), ((3,),), ((1,), (4, 7, 5))))

    def test_an_argument_that_comes_more_than_once(self):
        self.assertEqual(names_along((0,) + COPY + (7,), (0,)),
                         (((1,), (0, 6, 2)), ((1,), (3, 7, 5)), ((1,), (4, 7, 5))))
        self.assertEqual(names_along((0,) + COPY + I, (0,)),
                         (((1,), (0, 7, 2)), ((1,), (3, 8, 5)), ((6,),), ((1,), (4, 8, 5)), ((6,),)))

    def test_several_steps_one_behind_the_other(self):
        self.assertEqual(names_along(CHAIN, (0, 0)),
                         (((1,), (4,), (0, 7, 2, 8, 3, 9, 5, 10, 6)),))
        self.assertEqual(names_along(TWICE, (0, 1, 0))[0],
                         FIFTH + ((0, 10, 2, 14, 9, 15, 4, 11, 5),))

    def test_the_words_a_sign_needs_are_told_first_each_once(self):
        names = names_along(LOOP, (0, 0, 0))
        self.assertEqual(names[0], ((1,), (3, 10, 5), (7, 12, 4, 10, 5),
                                    (0, 9, 2, 11, 6, 13, 6)))

    def test_the_name_of_a_step_is_that_of_its_function_when_it_is_done(self):
        for term, history in CASES:
            if history:
                ahead = history[:-1]
                self.assertEqual(step_name(term, history),
                                 part_name(term, ahead, history[-1] + 1))

    def test_unlike_parts_can_have_equal_names(self):
        names = names_along(TWICE, (0,))
        self.assertEqual(names[3], names[8])
        self.assertEqual(step_name(TWICE, (0, 1)), step_name(TWICE, (0, 6)))

    def test_a_letter_can_come_more_than_once_in_a_word(self):
        self.assertEqual(names_along(LOOP, (0, 0, 0))[0][-1].count(6), 2)

    def test_a_copy_of_a_part_can_have_its_name(self):
        self.assertEqual(part_name(TWICE, (0,), 2), ((6,),))
        self.assertNotEqual(part_name(TWICE, (0,), 1), ((5,),))


class Laws(unittest.TestCase):

    def test_rests_of_a_step_keep_its_name(self):
        rng = random.Random(52)
        many = 0
        for term in lively_terms(52, 900, 40):
            history = some_history(rng, term, 2)
            end_names = names_along(term, history)
            for place in steps_of(term):
                for rest in rests_behind(term, history, place):
                    self.assertEqual(end_names[rest + 1], ((place + 1,),))
                    many += 1
        self.assertGreater(many, 300)

    def test_one_class_has_equal_names(self):
        unlike = 0
        for term, history in CASES:
            try:
                standard = standard_of(term, history)
            except TooMany:
                continue
            unlike += standard != history
            self.assertIs(are_one_class(term, history, standard), True)
            self.assertEqual(names_along(term, history), names_along(term, standard))
        self.assertGreater(unlike, 60)

    def test_one_end_of_two_classes_has_unlike_names(self):
        term = (0,) + I + (0,) + I + (1,)
        self.assertEqual(end_of(term, (0,)), end_of(term, (3,)))
        self.assertNotEqual(names_along(term, (0,)), names_along(term, (3,)))

    def test_a_new_step_is_higher_than_the_one_that_made_it(self):
        new = 0
        for term, history in CASES:
            for count, place in enumerate(history):
                now = end_of(term, history[:count])
                made = step_done(now, place)
                came = origins(now, place)
                by = name_height(term, step_name(term, history[:count + 1]))
                for at in steps_of(made):
                    name = part_name(term, history[:count + 1], at + 1)
                    if not is_step(now, came[at]):
                        self.assertGreater(name_height(term, name), by)
                        new += 1
                    else:
                        old = part_name(term, history[:count], came[at] + 1)
                        self.assertEqual(name, old)
        self.assertGreater(new, 200)


class Judging(unittest.TestCase):

    def test_all_names_are_names(self):
        for term, history in CASES:
            for name in names_along(term, history):
                self.assertIs(is_name(term, name), True)
        self.assertIs(is_name(TWICE, FIFTH), True)
        self.assertIs(is_name(TWICE, ((9,),)), True)

    def test_a_name_need_not_be_that_of_a_part(self):
        self.assertIs(is_name((1,), ((0,), (0, 1, 0), (0, 3, 0))), True)
        self.assertIs(is_name(TWICE, ((0,), (0, 10, 0, 11, 0, 10, 9))), True)

    def test_wrong_values_are_none(self):
        for value in WRONG_NAMES:
            self.assertIs(is_name(TWICE, value), False, repr(value)[:80])
        self.assertIs(is_name((1,), ((1,),)), False)
        self.assertIs(is_name((1,), ((0,), (0, 3, 0))), False)

    def test_values_near_to_names(self):
        rng = random.Random(53)
        right = wrong = 0
        for term, history in CASES:
            name = max(names_along(term, history), key=size)
            if len(name) < 2:
                continue
            for near in near_names(rng, name):
                wanted = told_well(len(term), near)
                self.assertIs(is_name(term, near), wanted, (len(term), near))
                right += wanted
                wrong += not wanted
        self.assertGreater(right, 200)
        self.assertGreater(wrong, 1000)

    def test_words_that_are_exchanged_doubled_left_out_or_needless(self):
        one, six, last = FIFTH
        for value in [(one, six, six, last), (one, last), (one, six, last, one),
                      (one, six, (9,), last), (one, six), (six,) + FIFTH, (one, six, last, last),
                      (one, six, last, (8, 16, 7)), (last,), (one, six, last[:-1]),
                      (one, six, last[::-1]), ((1,), (1,), (3, 11, 5, 12, 7, 13, 8))]:
            self.assertIs(is_name(TWICE, value), False, value)
        self.assertIs(is_name(TWICE, (six, one, (3, 11, 5, 12, 7, 13, 8))), True)
        self.assertIs(is_name(TWICE, FIFTH + ((0, 15, 1),)), True)
        self.assertIs(is_name(TWICE, FIFTH + ((0, 11, 1),)), False)

    def test_words_with_the_same_signs_in_another_order(self):
        self.assertIs(is_name((1,), ((0,), (0, 1, 0), (0, 1, 0, 3, 0))), True)
        self.assertIs(is_name((1,), ((0,), (0, 1, 0), (0, 3, 0, 1, 0))), True)
        self.assertIs(is_name((1,), ((0,), (0, 2, 0), (0, 1, 0), (0, 3, 0, 5, 0))), True)
        self.assertIs(is_name((1,), ((0,), (0, 2, 0), (0, 1, 0), (0, 5, 0, 3, 0))), False)


def near_names(rng, name):
    """Values that are like a name but for one change."""
    first, second = rng.randrange(len(name)), rng.randrange(len(name))
    words = list(name)
    words[first], words[second] = words[second], words[first]
    yield tuple(words)
    yield name[:first] + (name[first],) + name[first:]
    yield name[:first] + name[first + 1:]
    yield name[:first] + ((rng.randrange(4),),) + name[first:]
    yield name[:first + 1]
    for _ in range(3):
        row = rng.randrange(len(name))
        at = rng.randrange(len(name[row]))
        word = list(name[row])
        word[at] += rng.choice([-2, -1, 1, 2])
        yield name[:row] + (tuple(word),) + name[row + 1:]
        yield name[:row] + (tuple(word[:at] + word[at + 1:]),) + name[row + 1:]
        yield name[:row] + (tuple(word[:at] + word[at + 2:]),) + name[row + 1:]


def told_well(letters, value):
    """Whether the value tells words, and tells them as the document does."""
    if not value:
        return False
    for k, word in enumerate(value):
        if len(word) % 2 == 0 or min(word) < 0 or max(word) >= letters + 2 * k:
            return False
        if [sign for sign in word[::2] if sign >= letters]:
            return False
        if [sign for sign in word[1::2] if sign < letters]:
            return False
    return meanings.tell(letters, meanings.read_name(letters, value)) == value


class Reading(unittest.TestCase):

    def test_height_letters_and_inner_names_by_hand(self):
        self.assertEqual(name_height(TWICE, ((4,),)), 0)
        self.assertEqual(name_height(TWICE, FIFTH), 1)
        self.assertEqual(name_height(TWICE, FIFTH + ((0, 15, 1),)), 2)
        self.assertEqual(letters_of(TWICE, FIFTH), (1, 3, 5, 6, 7, 8))
        self.assertEqual(letters_of(TWICE, ((4,),)), (4,))
        self.assertEqual(inner_names(TWICE, ((4,),)), ())
        self.assertEqual(inner_names(TWICE, FIFTH), (((1,),), ((6,),)))
        name = ((1,), (6,), (3, 12, 3), (5, 15, 5, 11, 5))
        name = ((6,), (3, 10, 3), (1,), (5, 12, 5, 15, 5))
        self.assertIs(is_name(TWICE, name), True)
        self.assertEqual(inner_names(TWICE, name), (((6,),), ((6,), (3, 10, 3)), ((1,),)))
        name = ((1,), (6,), (3, 12, 3), (5, 11, 5, 14, 5))
        self.assertIs(is_name(TWICE, name), True)
        self.assertEqual(inner_names(TWICE, name), (((1,),), ((6,),), ((6,), (3, 10, 3))))

    def test_many_names_as_the_document_tells_them(self):
        for term, history in CASES:
            words = meanings.words_along(term, history)
            for word, name in list(zip(words, names_along(term, history)))[::3]:
                self.assertEqual(name_height(term, name), meanings.height(word))
                self.assertEqual(letters_of(term, name), tuple(sorted(
                    {letter for row in name for letter in row if letter < len(term)})))
                inner = [meanings.read_name(len(term), name[:k + 1]) for k in range(len(name) - 1)]
                self.assertEqual(inner_names(term, name),
                                 tuple([meanings.tell(len(term), word) for word in inner]))


class Led(unittest.TestCase):

    def test_a_name_led_along_a_history_is_that_for_the_first_term(self):
        rng = random.Random(54)
        many = 0
        for term in lively_terms(54, 900, 34):
            ahead = some_history(rng, term, 3)
            now = end_of(term, ahead)
            if len(now) <= 40:
                history = some_history(rng, now, 3)
                if history:
                    led = led_name(term, ahead, step_name(now, history))
                    self.assertEqual(led, step_name(term, ahead + history))
                    many += 1
        self.assertGreater(many, 200)

    def test_along_two_histories_one_after_the_other(self):
        rng = random.Random(55)
        for term in lively_terms(55, 200, 18):
            one = some_history(rng, term, 2)
            middle = end_of(term, one)
            if len(middle) > 40:
                continue
            other = some_history(rng, middle, 2)
            now = end_of(middle, other)
            for name in [((len(now) - 1,),), ((0,), (0, len(now), 0), (0, len(now) + 3, 0))]:
                there = led_name(middle, other, name)
                self.assertEqual(led_name(term, one, there), led_name(term, one + other, name))

    def test_any_name_as_the_document_tells_it(self):
        rng = random.Random(56)
        for term, history in CASES:
            words = meanings.words_along(term, history)
            letters = len(words)
            picked = [rng.randrange(letters) for _ in range(5)]
            name = ((picked[0],), (picked[1], letters + 1, picked[2]),
                    (picked[3], letters + 2, picked[4], letters + 1, picked[0]))
            word = meanings.led(meanings.read_name(letters, name), words)
            self.assertEqual(led_name(term, history, name), meanings.tell(len(term), word))

    def test_words_can_become_one(self):
        self.assertEqual(names_along(TWICE, (0,))[3], names_along(TWICE, (0,))[8])
        name = ((3,), (8,), (0, 11, 1, 14, 1))
        self.assertEqual(led_name(TWICE, (0,), name),
                         ((1,), (7,), (0, 10, 2, 12, 3, 11, 5, 13, 3, 11, 5)))

    def test_without_steps_a_name_stays(self):
        for term, history in CASES[:60]:
            for name in names_along(term, history)[::5]:
                self.assertEqual(led_name(term, (), name), name)

    def test_an_end_of_more_than_40_parts(self):
        end = end_of(FORTY, (0,))
        self.assertEqual(len(end), 71)
        self.assertEqual(led_name(FORTY, (0,), ((70,),)), ((39,),))
        self.assertEqual(led_name(FORTY, (0,), ((70,), (0, 71, 36))),
                         ((1,), (39,), (0, 40, 2, 42, 4, 41, 5)))
        with self.assertRaises(InvalidName):
            led_name(FORTY, (0,), ((71,),))
        with self.assertRaises(InvalidName):
            led_name(FORTY, (0,), ((70,), (0, 40, 36)))


class Limits(unittest.TestCase):

    def refused(self, function, *given):
        with self.assertRaises(TooMany) as caught:
            function(*given)
        self.assertEqual(caught.exception.limit, 2000)

    def test_2000_integers_and_2001(self):
        self.assertEqual([size(JUST), size(ABOVE)], [2000, 2001])
        self.assertEqual(name_height(TWICE, JUST), 1)
        self.assertEqual(letters_of(TWICE, JUST), (1,))
        self.assertEqual(inner_names(TWICE, JUST), (((1,),),))
        self.assertEqual(led_name(TWICE, (), JUST), JUST)
        for function in (name_height, letters_of, inner_names):
            with self.assertRaises(InvalidName):
                function(TWICE, ABOVE)
        with self.assertRaises(InvalidName):
            led_name(TWICE, (), ABOVE)
        self.assertIs(is_name(TWICE, JUST), True)
        self.assertIs(is_name(TWICE, ABOVE), True)

    def test_names_along_a_long_history(self):
        refused = 0
        for count in (10, 20, 30, 36, 37, 38, 39, 40, 41, 42, 43, 44, 50, 60):
            words = meanings.words_along(LOOP, (0,) * count)
            names = [meanings.tell(9, word) for word in words]
            for place in (0, 1, 5):
                if size(names[place]) > 2000:
                    self.refused(part_name, LOOP, (0,) * count, place)
                    refused += 1
                else:
                    self.assertEqual(part_name(LOOP, (0,) * count, place), names[place])
            if max(map(size, names)) > 2000:
                self.refused(names_along, LOOP, (0,) * count)
            self.assertEqual(part_name(LOOP, (0,) * count, 8), ((8,),))
        self.assertGreater(refused, 5)

    def test_a_step_with_a_name_that_is_too_long(self):
        longest = [count for count in range(1, 61)
                   if size(meanings.step_name(LOOP, (0,) * count)) <= 2000][-1]
        self.assertLess(longest, 60)
        self.assertEqual(step_name(LOOP, (0,) * longest),
                         meanings.step_name(LOOP, (0,) * longest))
        self.refused(step_name, LOOP, (0,) * (longest + 1))
        self.refused(step_name, LOOP, (0,) * 60)

    def test_a_led_name_that_is_too_long(self):
        # At the end there is one part, whose word has nine integers and needs two words.
        self.assertEqual(end_of(CHAIN, (0, 0)), (2,))
        name = ((0,),) + ((0,) + (1, 0) * 150,)
        self.assertEqual(size(led_name(CHAIN, (0, 0), name)), 1 + 1 + 9 + 9 * 151 + 150)
        name = ((0,),) + ((0,) + (1, 0) * 197,)
        self.assertEqual(size(led_name(CHAIN, (0, 0), name)), 11 + 9 * 198 + 197)
        name = ((0,),) + ((0,) + (1, 0) * 198,)
        self.assertEqual(11 + 9 * 199 + 198, 2000)
        self.assertEqual(size(led_name(CHAIN, (0, 0), name)), 2000)
        name = ((0,),) + ((0,) + (1, 0) * 199,)
        self.refused(led_name, CHAIN, (0, 0), name)
        name = ((0,),) + ((0,) + (1, 0) * 900,)
        self.refused(led_name, CHAIN, (0, 0), name)
        name = ((0,), (0,) + (1, 0) * 900, (0, 3, 0))
        self.refused(led_name, CHAIN, (0, 0), name)

    def compare_all(self, term, history):
        """Compares the names of all parts of the end, and returns how many are too long."""
        refused = 0
        for place, word in enumerate(meanings.words_along(term, history)):
            name = meanings.tell(len(term), word)
            if size(name) <= 2000:
                self.assertEqual(part_name(term, history, place), name)
            else:
                self.refused(part_name, term, history, place)
                refused += 1
        return refused

    def test_words_that_become_twice_as_long_each_time(self):
        for rounds in (5, 7, 8, 9, 11):
            refused = self.compare_all(DOUBLING, doubling_history(rounds))
            self.assertEqual(refused > 0, rounds > 7)
        longest = [max(map(len, meanings.words_along(DOUBLING, doubling_history(rounds))))
                   for rounds in (7, 8, 9)]
        self.assertEqual(longest, [1017, 2041, 4089])

    def test_a_step_whose_own_word_is_too_long(self):
        # The function that the latest round made gives back a function, which is then called.
        history = doubling_history(9)[:43]
        now = end_of(DOUBLING, history)
        place = [at for at in steps_of(now) if now[at:at + 5] == (0, -1, 1) + I][0]
        history += (place,)
        self.assertEqual(step_name(DOUBLING, history), meanings.step_name(DOUBLING, history))
        self.assertGreater(self.compare_all(DOUBLING, history), 1)
        further = history + (place - 1,)
        self.refused(step_name, DOUBLING, further)
        self.assertGreater(self.compare_all(DOUBLING, further), 1)
        self.assertEqual(part_name(DOUBLING, further, 0), meanings.part_names(DOUBLING, further)[0])

    def test_a_name_led_to_a_word_that_is_too_long(self):
        history = doubling_history(8)
        words = meanings.words_along(DOUBLING, history)
        long = [at for at, word in enumerate(words) if len(word) > 2000][0]
        letters = len(words)
        short = [at for at, word in enumerate(words) if len(word) == 1][:3]
        for name in [((long,),), ((long,), (short[0], letters, short[1])),
                     ((short[0],), (long, letters, short[1])),
                     ((short[0],), (short[1], letters + 1, long)),
                     ((long,), (short[0], letters, short[0]), (short[1], letters + 3, short[1]))]:
            self.refused(led_name, DOUBLING, history, name)
        name = ((short[0],), (short[1], letters + 1, short[2]))
        word = meanings.led(meanings.read_name(letters, name), words)
        self.assertEqual(led_name(DOUBLING, history, name), meanings.tell(30, word))

    def test_the_order_of_the_errors(self):
        long = (0,) * 60
        with self.assertRaises(InvalidTerm):
            part_name(FORTY_ONE, (1,), -1)
        with self.assertRaises(InvalidHistory):
            part_name(LOOP, long + (0,), -1)
        with self.assertRaises(InvalidPlace):
            part_name(LOOP, long, 9)
        with self.assertRaises(InvalidHistory):
            step_name(LOOP, (1,))
        with self.assertRaises(InvalidOperation):
            step_name(LOOP, ())
        with self.assertRaises(InvalidHistory):
            led_name(LOOP, (1,), ())
        with self.assertRaises(InvalidName):
            led_name(LOOP, long, ((9,),))
        self.refused(led_name, LOOP, long, ((0,),))
        for function in (names_along, step_name):
            with self.assertRaises(InvalidTerm):
                function(FORTY_ONE, (0,))


if __name__ == "__main__":
    unittest.main()
