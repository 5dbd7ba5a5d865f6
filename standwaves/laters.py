"""What all stands of a size become, as numbers: of these in ascending order, from 0 on."""


def _ends_by(rule):
    """Returns, for each pair of signs, ascending, the list of what its second becomes beside each third."""
    signs = rule.signs
    # Only a seat that sits asks who is beside it.
    others = [[int(rule("0", seat, "0"))] * len(signs) for seat in signs[1:]]
    ends = []
    for left in signs:
        ends.append([int(rule(left, "0", right)) for right in signs])
        ends.extend(others)
    return ends


def _inner_numbers(ends, many, size):
    """Returns the list, for all rows of size of many signs, from two on, of the numbers of what they become."""
    numbers = [0] * len(ends)
    for _ in range(size - 2):
        # The last two signs of ascending rows go round, and with each sign
        # behind them they tell what one character more becomes.
        last_pairs = ends * (len(numbers) // len(ends))
        numbers = [number * many + sign for number, signs in zip(numbers, last_pairs) for sign in signs]
    return numbers


def later_numbers(rule, size):
    """Returns the list, for all stands of size seats, of the numbers of the stands a beat later."""
    signs = rule.signs
    many = len(signs)
    if size == 1:
        return [int(rule(sign, sign, sign)) for sign in signs]
    if size == 2:
        return [int(rule(other, sign, other)) * many + int(rule(sign, other, sign))
                for sign in signs for other in signs]
    ends = _ends_by(rule)
    inners = _inner_numbers(ends, many, size)
    # What the first and the last seat become is told by the digits of the
    # number at both ends, since these are neighbours.
    pairs = many * many
    whole = len(inners) // many
    block = whole // many
    heads = [[ends[last * many + pair // many][pair % many] * whole for last in range(many)]
             for pair in range(pairs)]
    return [heads[number // block][number % many] + inner * many + ends[number % pairs][number // whole]
            for number, inner in enumerate(inners)]


def numbers_after(rule, size, many):
    """Returns the list, for all stands of size seats, of the numbers of the stands many beats later."""
    later = later_numbers(rule, size)
    numbers = list(range(len(later)))
    for _ in range(many):
        numbers = [later[number] for number in numbers]
    return numbers
