"""Scripts that move items of a line next to other items."""
