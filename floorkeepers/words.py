"""The words of knowledges: a row of integers for each floor."""


def known_sizes(knowledge):
    """The sizes of a knowledge."""
    return tuple([word[-1] for word in knowledge[1]])


def is_nested(knowledge):
    """Whether wherever a floor's word goes up, the next floor's does, too."""
    words = knowledge[1]
    return all([goes_up_with(words[floor - 1], words[floor]) for floor in range(1, len(words))])


def goes_up_with(low, high):
    """Whether the high word goes up wherever the low one does."""
    return all([high[d] > high[d - 1] for d in range(1, len(low)) if low[d] > low[d - 1]])


def tightened(rows, sizes):
    """The least tight words of these sizes that are nowhere less than rows, None if there are none."""
    words = along_floors([along_counts(row, size) for row, size in zip(rows, sizes)], sizes)
    # All else holds by now; but the ends come out too great where rows are, or where sizes go down or below 0.
    if any([word[0] > 0 or word[-1] > size for word, size in zip(words, sizes)]):
        return None
    return tuple([tuple(word) for word in words])


def along_counts(row, size):
    """The least integers from 0 on that go up by one at most, not less than the row, or the size at the end."""
    word = greater_ones(row, [0] * len(row))
    word[-1] = max(word[-1], size)
    for d in range(1, len(word)):
        if word[d] < word[d - 1]:
            word[d] = word[d - 1]
    for d in range(len(word) - 2, -1, -1):
        if word[d] < word[d + 1] - 1:
            word[d] = word[d + 1] - 1
    return word


def along_floors(rows, sizes):
    """The least integers, not less than rows, that are tight between neighbouring floors."""
    words = list(rows)
    for floor in range(1, len(words)):
        words[floor] = greater_ones(words[floor], words[floor - 1])
    for floor in range(len(words) - 2, -1, -1):
        more = sizes[floor + 1] - sizes[floor]
        words[floor] = greater_ones(words[floor], [number - more for number in words[floor + 1]])
    return words


def greater_ones(one, other):
    """The list of the greater one of each two integers of two rows."""
    # Many thousands of calls of max would take much longer than this.
    return [number if number > more else more for number, more in zip(one, other)]
