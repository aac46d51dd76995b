"""Notes, readings and books, and their texts."""
