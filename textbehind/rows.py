"""When rows of letters are alike, and when told things are true of them."""

from textbehind.walks import steps_of


def numbered(row):
    """The row with its letters numbered from 0 on in the order in which they come first."""
    numbers = {}
    for letter in row:
        numbers.setdefault(letter, len(numbers))
    return [numbers[letter] for letter in row]


def ranked(row):
    """The row with each letter replaced by the number of lesser different letters."""
    ranks = {letter: rank for rank, letter in enumerate(sorted(set(row)))}
    return [ranks[letter] for letter in row]


def letters_in(row):
    """The number of letters of a row that has the letters from 0 on."""
    return max(row, default=-1) + 1


def least_other(letters):
    """The least letter that is not among these."""
    letter = 0
    while letter in letters:
        letter += 1
    return letter


def goes_with(manner, met, letter, other):
    """Whether two rows that met these pairs of letters stay alike, in names or in order, with one more pair."""
    for earlier, other_earlier in met:
        if (earlier == letter) != (other_earlier == other):
            return False
        if manner == "order" and (earlier < letter) != (other_earlier < other):
            return False
    return True


def equal_steps(row, steps):
    """At how many first steps the letters are equal."""
    for many, (place, other) in enumerate(steps):
        if row[place] != row[other]:
            return many
    return len(steps)


def agreed(row, manner, steps):
    """For how many of the steps, pairs of places, the two rows of letters are alike."""
    if manner == "letters":
        return equal_steps(row, steps)
    met = []
    for many, (place, other) in enumerate(steps):
        pair = (row[place], row[other])
        # A pair that was met before says nothing new; so met stays as short as the letters are few.
        if pair in met:
            continue
        if not goes_with(manner, met, row[place], row[other]):
            return many
        met.append(pair)
    return len(steps)


def agreements(row, manner, entries):
    """The agreements of these entries in a text."""
    size = len(row)
    return [agreed(row, manner, steps_of(size, entry, size)) for entry in entries]


def deciding_steps(size, thing):
    """The first steps of the walks, as many as decide whether the thing is true."""
    _, entry, sort, value = thing
    return steps_of(size, entry, value if sort == "least" else value + 1)


def is_so(agreement, sort, value):
    """Whether an agreement is as it is told."""
    if sort == "is":
        return agreement == value
    if sort == "least":
        return agreement >= value
    return agreement <= value


def true_by_steps(row, thing, steps):
    """Whether a thing is true of a row; the steps are those that decide it."""
    manner, _, sort, value = thing
    return is_so(agreed(row, manner, steps), sort, value)


def holds(row, thing):
    """Whether a thing is true of a text."""
    return true_by_steps(row, thing, deciding_steps(len(row), thing))


def has_all(row, things):
    """Whether a text has a list of things."""
    return all([holds(row, thing) for thing in things])
