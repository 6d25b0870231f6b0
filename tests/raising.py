"""What tests of wrong inputs share."""

import copy


class Raising:
    """Mixed into a test case: calls that must raise, and leave their arguments as they were."""

    def raises(self, error, value, function, *arguments, **named):
        before = copy.deepcopy((arguments, named))
        with self.assertRaises(error) as caught:
            function(*arguments, **named)
        self.assertIs(type(caught.exception), error)
        self.assertEqual(caught.exception.value, value)
        self.assertIs(type(caught.exception.value), type(value))
        self.assertEqual((arguments, named), before)

    def raises_lightly(self, error, value, function, *arguments):
        """As raises, of values too deep to be compared or copied: the very value must come back."""
        with self.assertRaises(error) as caught:
            function(*arguments)
        self.assertIs(type(caught.exception), error)
        self.assertIs(caught.exception.value, value)
