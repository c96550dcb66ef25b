"""Points 85 and 86: the passive queue."""

import random
import unittest

from elenchus.errors import DuplicateNumber, ElenchusError, EmptyQueue, InvalidRatio
from elenchus.passive import Passive


def filled(pairs, **ratio):
    queue = Passive(**ratio)
    for number, weight in pairs:
        queue.add(number, weight)
    return queue


class ByHand:
    """The queue of point 85, word for word."""

    def __init__(self, by_weight, by_age):
        self.turns = ["weight"] * by_weight + ["age"] * by_age
        self.turn = 0
        self.pairs = []

    def take(self):
        if self.turns[self.turn] == "weight":
            _, number = min((weight, number) for number, weight in self.pairs)
        else:
            number = min(number for number, _ in self.pairs)
        self.turn = (self.turn + 1) % len(self.turns)
        self.pairs = [pair for pair in self.pairs if pair[0] != number]
        return number


class Taking(unittest.TestCase):
    """Point 85."""

    def test_the_example(self):
        queue = filled([(0, 9), (1, 3), (2, 5), (3, 3), (4, 1)], by_weight=2, by_age=1)
        self.assertEqual([queue.take() for k in range(5)], [4, 1, 0, 3, 2])

    def test_four_by_weight_and_one_by_age_is_the_default(self):
        queue = filled([(k, 100 - k) for k in range(12)])
        self.assertEqual([queue.take() for k in range(12)], [11, 10, 9, 8, 0, 7, 6, 5, 4, 1, 3, 2])

    def test_by_weight_alone(self):
        queue = filled([(5, 2), (3, 2), (4, 1), (1, 7)], by_weight=1, by_age=0)
        self.assertEqual([queue.take() for k in range(4)], [4, 3, 5, 1])
        self.assertEqual(list(filled([(5, 2), (3, 2)], by_weight=3, by_age=0)), [3, 5])

    def test_by_age_alone(self):
        queue = filled([(5, 2), (3, 2), (4, 1), (1, 7)], by_weight=0, by_age=2)
        self.assertEqual([queue.take() for k in range(4)], [1, 3, 4, 5])

    def test_of_equal_weights_the_lowest_number_is_first(self):
        queue = filled([(9, 4), (2, 4), (7, 4), (11, 3)], by_weight=1, by_age=0)
        self.assertEqual([queue.take() for k in range(4)], [11, 2, 7, 9])

    def test_a_turn_that_finds_the_queue_empty_does_not_count(self):
        queue = filled([(0, 5)], by_weight=1, by_age=1)
        self.assertEqual(queue.take(), 0)
        for _ in range(3):
            self.assertRaises(EmptyQueue, queue.take)
        queue.add(1, 9)
        queue.add(2, 3)
        # The turn by age is still to come.
        self.assertEqual([queue.take(), queue.take()], [1, 2])

    def test_an_empty_queue_in_the_middle_of_a_row_of_turns(self):
        queue = filled([(0, 5)], by_weight=2, by_age=1)
        self.assertEqual(queue.take(), 0)
        self.assertRaises(EmptyQueue, queue.take)
        for number, weight in [(1, 9), (2, 8), (3, 7)]:
            queue.add(number, weight)
        self.assertEqual([queue.take() for k in range(3)], [3, 1, 2])

    def test_numbers_that_are_added_in_between(self):
        queue = filled([(4, 4), (6, 6)], by_weight=1, by_age=1)
        self.assertEqual(queue.take(), 4)
        queue.add(8, 1)
        queue.add(2, 9)
        self.assertEqual(queue.take(), 2)
        self.assertEqual(queue.take(), 8)
        queue.add(4, 7)
        self.assertEqual([queue.take(), queue.take()], [4, 6])

    def test_a_number_that_was_taken_may_be_added_with_another_weight(self):
        queue = filled([(0, 1), (1, 5)], by_weight=1, by_age=0)
        self.assertEqual(queue.take(), 0)
        queue.add(0, 9)
        self.assertEqual([queue.take(), queue.take()], [1, 0])
        self.assertRaises(EmptyQueue, queue.take)

    def test_very_large_numbers_weights_and_ratios(self):
        large = 10 ** 40
        queue = filled([(large, 3), (large + 1, large), (7, large * large)], by_weight=large, by_age=large)
        self.assertEqual([queue.take() for k in range(3)], [large, large + 1, 7])

    def test_many_numbers_as_by_hand(self):
        choice = random.Random(85)
        for by_weight, by_age in [(4, 1), (1, 1), (2, 3), (0, 1), (3, 0), (1, 5)]:
            queue = Passive(by_weight=by_weight, by_age=by_age)
            other = ByHand(by_weight, by_age)
            for _ in range(300):
                number = choice.randrange(60)
                if choice.random() < 0.6:
                    if number not in queue:
                        weight = choice.randrange(8)
                        queue.add(number, weight)
                        other.pairs.append((number, weight))
                elif other.pairs:
                    self.assertEqual(queue.take(), other.take())
                else:
                    self.assertRaises(EmptyQueue, queue.take)
                self.assertEqual(list(queue), sorted(number for number, _ in other.pairs))


class Contents(unittest.TestCase):
    """The interface of the queue."""

    def test_length_membership_and_iteration(self):
        queue = Passive()
        self.assertEqual((len(queue), list(queue), 0 in queue), (0, [], False))
        for number, weight in [(5, 1), (2, 9), (9, 4)]:
            queue.add(number, weight)
        self.assertEqual((len(queue), list(queue)), (3, [2, 5, 9]))
        self.assertEqual([number in queue for number in (2, 3, 5, 9, -1)], [True, False, True, True, False])
        self.assertEqual(queue.take(), 5)
        self.assertEqual((len(queue), list(queue), 5 in queue), (2, [2, 9], False))

    def test_a_number_that_is_there_is_refused(self):
        queue = filled([(3, 5), (4, 6)], by_weight=1, by_age=0)
        for weight in (5, 1, 9):
            with self.assertRaises(DuplicateNumber) as caught:
                queue.add(3, weight)
            self.assertEqual(caught.exception.number, 3)
        self.assertEqual((len(queue), list(queue)), (2, [3, 4]))
        self.assertEqual([queue.take(), queue.take()], [3, 4])

    def test_an_empty_queue(self):
        queue = Passive(by_weight=1, by_age=0)
        self.assertRaises(EmptyQueue, queue.take)
        self.assertTrue(issubclass(EmptyQueue, ElenchusError))
        self.assertEqual(list(queue), [])
        queue.add(1, 1)
        self.assertEqual(queue.take(), 1)

    def test_queues_do_not_touch_each_other(self):
        first = filled([(1, 1)])
        second = filled([(2, 2)])
        self.assertEqual((list(first), list(second)), ([1], [2]))


class Ratios(unittest.TestCase):
    """The two numbers of a queue."""

    def test_wrong_ratios(self):
        for wrong in (-1, True, False, None, "1", (1,)):
            for ratio in ({"by_weight": wrong}, {"by_age": wrong}, {"by_weight": wrong, "by_age": wrong}):
                with self.assertRaises(InvalidRatio) as caught:
                    Passive(**ratio)
                self.assertIsInstance(caught.exception.reason, str)

    def test_both_numbers_are_0(self):
        self.assertRaises(InvalidRatio, Passive, by_weight=0, by_age=0)
        Passive(by_weight=0)
        Passive(by_age=0)

    def test_the_numbers_are_passed_by_keyword(self):
        self.assertRaises(TypeError, Passive, 1, 1)


class Fairness(unittest.TestCase):
    """Point 86."""

    def test_a_number_is_given_back_in_the_round_of_its_rank(self):
        choice = random.Random(86)
        for by_weight, by_age in [(4, 1), (1, 2), (0, 1), (5, 3)]:
            queue = Passive(by_weight=by_weight, by_age=by_age)
            # The number 40 is heavy, and has 7 lower numbers beside it.
            for number in sorted(choice.sample(range(40), 7)) + [40]:
                queue.add(number, 1000 if number == 40 else choice.randrange(9))
            later = 41
            for _ in range(8 * (by_weight + by_age)):
                for _ in range(3):
                    queue.add(later, choice.randrange(5))
                    later += 1
                if queue.take() == 40:
                    break
            else:
                self.fail("not given back")


if __name__ == "__main__":
    unittest.main()
