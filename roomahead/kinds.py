"""What kind of value a value is, and which integer a word tells: asked by several modules."""

LONGEST_NAME = 12


def is_integer(value):
    """Return whether value is an integer."""
    # Python counts True and False as 1 and 0; here they are no integers.
    return isinstance(value, int) and not isinstance(value, bool)


def within(value, least, greatest):
    """Return whether value is an integer from least to greatest."""
    return is_integer(value) and least <= value <= greatest


def is_name(value):
    """Return whether value is a name, as nets are kept under."""
    if not isinstance(value, str) or not 1 <= len(value) <= LONGEST_NAME:
        return False
    return all(["a" <= sign <= "z" for sign in value])


def is_tuple_of(value, many):
    """Return whether value is a tuple of so many items."""
    return isinstance(value, tuple) and len(value) == many


def number_told(word, greatest):
    """Return the integer from 0 to greatest that is written as word, None if there is none."""
    # The length comes first, as Python refuses to read numbers of some thousand figures.
    if len(word) > len(str(greatest)) or not word.isdecimal():
        return None
    number = int(word)
    # Written again it is word only without noughts ahead, and in the figures 0 to 9.
    if number > greatest or str(number) != word:
        return None
    return number


def is_deed(value, lanes, houses):
    """Return whether value is a deed where there are so many lanes and houses."""
    if not isinstance(value, tuple) or len(value) == 0:
        return False
    word = value[0]
    if word == "in":
        return _all_below(value[1:], (lanes, houses))
    if word == "on":
        return _all_below(value[1:], (lanes, lanes))
    return word == "out" and _all_below(value[1:], (lanes,))


def _all_below(values, bounds):
    """Return whether there is an integer from 0 on, below its bound, for each bound."""
    if len(values) != len(bounds):
        return False
    return all([within(value, 0, bound - 1) for value, bound in zip(values, bounds)])
