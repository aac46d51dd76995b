"""The sweep of a book, its two papers, and the judging of tables."""
