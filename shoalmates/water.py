"""The water over the bar, of so many ships, whoever they are."""


def mark_of(here, there, many, step):
    """Tell the mark of a step where there are so many ships in all."""
    return min(here + step, there + many - 1 - step)


def top_of(here, there, many):
    """Tell the least step whose mark is the greatest where there are so many ships in all."""
    last = many - 1
    # Step by step the water here rises by one and that there falls by one, so the mark
    # is greatest where both meet; of two steps alike, rounding down takes the lesser.
    meeting = (there + last - here) // 2
    return max(0, min(last, meeting))
