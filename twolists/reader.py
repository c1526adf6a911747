"""Reading the numbers of the calls one behind another."""


class Reader:
    """Walks a list of numbers, which it never changes."""

    def __init__(self, numbers):
        self.numbers = numbers
        self.place = 0

    def at_end(self):
        return self.place >= len(self.numbers)

    def next_number(self):
        number = self.numbers[self.place]
        self.place += 1
        return number

    def next_row(self):
        """The numbers of a text or list, which has how many they are ahead of it; a list of its own."""
        length = self.next_number()
        row = self.numbers[self.place:self.place + length]
        self.place += length
        return row
