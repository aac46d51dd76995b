"""What books imply, and all that holds in every day that fits."""
