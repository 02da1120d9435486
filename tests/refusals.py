"""What the tests of refused calls have in common."""

import copy
import unittest


class RefusalTest(unittest.TestCase):
    def refused(self, error, function, *values, **named):
        with self.assertRaises(error) as caught:
            function(*values, **named)
        self.assertIs(type(caught.exception), error)

    def refuses(self, function, parameters):
        """A call is refused for each wrong argument, and answers as before behind it.

        The parameters are tuples (name, right value, error, wrong values), in their sequence.
        """
        names = [name for name, *_ in parameters]
        right = [value for _, value, *_ in parameters]
        told = function(*copy.deepcopy(right))
        for at, (_, _, error, wrongs) in enumerate(parameters):
            for wrong in wrongs:
                with self.subTest(function=function.__name__, name=names[at], wrong=repr(wrong)[:60]):
                    self.refused_at(function, names, right[:at] + [wrong] + right[at + 1:], error)
            # Of those that stand behind the first wrong argument all are wrong, too, or one.
            last_wrongs = [wrongs[-1] for _, _, _, wrongs in parameters]
            for wrong in wrongs[::7]:
                with self.subTest(function=function.__name__, name=names[at], first=repr(wrong)[:60]):
                    self.refused_at(function, names, right[:at] + [wrong] + last_wrongs[at + 1:], error)
                    for later in range(at + 1, len(names)):
                        values = right[:at] + [wrong] + right[at + 1:later] + [last_wrongs[later]] + right[later + 1:]
                        self.refused_at(function, names, values, error)
        self.assertEqual(function(*right), told)

    def refused_at(self, function, names, values, error):
        kept = repr(values)
        self.refused(error, function, *values)
        self.refused(error, function, **dict(list(zip(names, values))[::-1]))
        self.assertEqual(repr(values), kept)
