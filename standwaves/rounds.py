"""Closed walks by layers of steps: how many there are, and the stands that they read, in order."""

from standwaves.stands import window_at


def found_in(numbers, number):
    """Returns the tuple (place, rest): number less those that stand ahead, rest, is below the one there."""
    place = 0
    while number >= numbers[place]:
        number = number - numbers[place]
        place += 1
    return (place, number)


def _ways_by(rows, layers, width):
    """Returns the list of the dicts, for 0 to all last layers, from each row to the ways from there.

    These are an integer that has a field of width bits for each row: in how many ways one
    comes to it. So what is asked of all rows is added at once.
    """
    ways = [{row: 1 << width * place for place, row in enumerate(rows)}]
    for layer in reversed(layers):
        ahead = ways[-1]
        ways.append({row: sum([ahead[other] for other in layer[row]]) for row in rows})
    return ways


class Rounds:
    """The closed walks of one step of each layer, by the ascending stands that they read.

    A layer is the dict from each row, ascending, to the ascending list of the rows to which its
    steps lead; the rows are the same in all layers. A walk reads the first characters of its rows.
    """

    def __init__(self, layers):
        self._layers = layers
        self._rows = list(layers[0]) if layers else []
        # From a row no more steps lead than there are signs, four at most.
        width = 2 * len(layers) + 1
        self._ways = _ways_by(self._rows, layers, width)
        self._low = {row: width * place for place, row in enumerate(self._rows)}
        self._field = (1 << width) - 1

    def ways(self, left, row, first):
        """Returns how many walks of the last layers, so many as are left, lead from a row to the first."""
        return self._ways[left][row] >> self._low[first] & self._field

    def many(self):
        """Returns how many closed walks there are."""
        return self.many_of(len(self._layers))

    def many_of(self, left):
        """Returns how many closed walks of the last layers there are."""
        return sum([self.ways(left, row, row) for row in self._rows])

    def texts(self):
        """Yields the stands, ascending."""
        for first in self._rows:
            waiting = [(first, "")]
            while waiting:
                row, text = waiting.pop()
                left = len(self._layers) - len(text)
                # Only rows from which the walk can still be closed are gone
                # on from, so that nothing is tried in vain.
                if self.ways(left, row, first) > 0:
                    if left == 0:
                        yield text
                    else:
                        others = self._layers[len(text)][row]
                        waiting.extend([(other, text + row[0]) for other in reversed(others)])

    def nth(self, number):
        """Returns the stand of this number, from 0 on, in ascending order; there are more than number."""
        left = len(self._layers)
        place, number = found_in([self.ways(left, row, row) for row in self._rows], number)
        first = self._rows[place]
        row = first
        text = ""
        for layer in self._layers:
            left -= 1
            text += row[0]
            place, number = found_in([self.ways(left, other, first) for other in layer[row]], number)
            row = layer[row][place]
        return text

    def number_of(self, text):
        """Returns how many of the stands are below this one, which is one of them."""
        reach = len(self._rows[0]) // 2
        rows = [window_at(text, seat + reach, reach)[:-1] for seat in range(len(text))]
        first = rows[0]
        left = len(self._layers)
        number = sum([self.ways(left, row, row) for row in self._rows if row < first])
        for row, ahead, layer in zip(rows, rows[1:] + rows[:1], self._layers):
            left -= 1
            number += sum([self.ways(left, other, first) for other in layer[row] if other < ahead])
        return number
